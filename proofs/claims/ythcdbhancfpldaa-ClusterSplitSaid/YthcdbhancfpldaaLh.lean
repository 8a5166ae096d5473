/- Contract: Split of the program. -/
import Derived.Test.YthcdbhancfpldaaLg
import Derived.Test.YthcdbhancfpldaaZf
namespace Go.Proofs.Ythcdbhancfpldaa
open Go.RowKit
set_option linter.unusedVariables false
set_option linter.unusedSimpArgs false
set_option maxRecDepth 100000

theorem Hp.cbox_set {W w : World} {l : List Itm} {i g : Nat} {A : Option Addr} {n c : Nat} {B : Option Addr} {m d : Nat} (h : Hp W l w) (hi : l[i]? = some (cbox g A n c B m d)) (A2 : Option Addr) (n2 c2 : Nat) (B2 : Option Addr) (m2 d2 : Nat) :
    Hp W (l.set i (cbox g A2 n2 c2 B2 m2 d2)) ((w.setCell ⟨g, 0, none⟩ (.slice A2 n2 c2)).setCell ⟨g, 1, none⟩ (.slice B2 m2 d2)) := by
  have h1 := Hp.box_set (T := 25) (g := g) (cs := [.slice A n c, .slice B m d]) h hi 0 (.slice A2 n2 c2)
  have hl : i < l.length := (List.getElem?_eq_some_iff.1 hi).1
  have h2 := Hp.box_set (T := 25) (g := g) (cs := [.slice A2 n2 c2, .slice B m d]) (i := i) h1 (by rw [Pt.set_at hl, if_pos rfl]; rfl) 1 (.slice B2 m2 d2)
  rw [List.set_set] at h2
  exact h2
theorem Hp.cbox_st {W w : World} {l : List Itm} {i g : Nat} {A : Option Addr} {n c : Nat} {B : Option Addr} {m d : Nat} (h : Hp W l w) (hi : l[i]? = some (cbox g A n c B m d)) :
    (w.cell? ⟨g, 0, none⟩ = some (.slice A n c) ∧ w.frozen? ⟨g, 0, none⟩ = false ∧ g < w.heap.size) ∧ w.cell? ⟨g, 1, none⟩ = some (.slice B m d) ∧ w.frozen? ⟨g, 1, none⟩ = false :=
  ⟨h.box_at hi (j := 0) rfl, (h.box_at hi (j := 1) rfl).1, (h.box_at hi (j := 1) rfl).2.1⟩
/-- What Split returns. -/
def splR (C : Clu) (at_ : Int) : Clu × Clu × Int := if vC C ≠ 0 then (⟨[], []⟩, ⟨[], []⟩, vC C) else if at_ < 0 ∨ (C.s.length : Int) < at_ then (⟨[], []⟩, ⟨[], []⟩, 6) else (spA C at_.toNat, spB C at_.toNat, 0)
def SpPost (C : Clu) (at_ : Int) (w : World) (e : Ending) (w' : World) : Prop :=
  ∃ A1 n1 c1 B1 m1 d1 A2 n2 c2 B2 m2 d2, e = .returned (.tuple #[.agg #[.slice A1 n1 c1, .slice B1 m1 d1], .agg #[.slice A2 n2 c2, .slice B2 m2 d2], .int .i64 (splR C at_).2.2]) ∧ CIn w' A1 n1 B1 m1 (splR C at_).1 ∧ CIn w' A2 n2 B2 m2 (splR C at_).2.1 ∧ Below w.heap.size w w'
theorem cnt_lt (k : Nat) : ∀ M : List Int, M.countP (· < (k : Int) + 1) = (ltB (k : Int) M).length
  | [] => rfl
  | a :: r => by
    have ih := cnt_lt k r
    unfold ltB at *
    rw [List.countP_cons, ih, List.filter_cons]
    by_cases h : a ≤ (k : Int)
    · have h2 : a < (k : Int) + 1 := by omega
      simp [h, h2]
    · have h2 : ¬ a < (k : Int) + 1 := by omega
      simp [h, h2]
theorem search_any (M : List Int) (m d : Nat) (B : Option Addr) (z : Int) (w : World) (hs : M.Pairwise (· ≤ ·)) (hl : M.length = m) (hm : m ≤ 1000000) (hB : CellsIn w B (ints M)) :
    Calls Try.prog 50 #[.slice B m d, .int .i64 z] w fun e w' => ∃ b, e = .returned (.tuple #[.int .i64 (M.countP (· < z) : Nat), .bool b]) ∧ Below w.heap.size w w' := by
  by_cases h0 : m = 0
  · subst h0
    have e0 : M = [] := List.eq_nil_of_length_eq_zero hl
    subst e0
    refine (Try.slices_BinarySearch_int_empty B d z w).mono ?_
    rintro e w' ⟨rfl, rfl⟩
    exact ⟨_, rfl, Below.refl _ _⟩
  · obtain ⟨b, off, rfl, hb, hc⟩ := hB (by rw [ints_len]; omega)
    refine (Try.slices_BinarySearch_int b off m d M z w (by omega) (by omega) (fun j hj => hc j _ (ints_at hj)) (by rw [take_all hl]; exact hs)).mono ?_
    rintro e w' ⟨rfl, q, rfl⟩
    exact ⟨_, by rw [take_all hl], bdrewN _ _⟩
theorem CellsIn.left {w : World} {A : Option Addr} {xs ys : List Value} (h : CellsIn w A (xs ++ ys)) : CellsIn w A xs := by
  intro h0
  obtain ⟨b, off, e, hb, hc⟩ := h (by rw [List.length_append]; omega)
  exact ⟨b, off, e, hb, fun j u hu => hc j u (by rw [List.getElem?_append_left (List.getElem?_eq_some_iff.1 hu).1]; exact hu)⟩
theorem CellsIn.right {w : World} {b off : Nat} {xs ys : List Value} (h : CellsIn w (some ⟨b, off, none⟩) (xs ++ ys)) : CellsIn w (some ⟨b, off + xs.length, none⟩) ys := by
  intro h0
  obtain ⟨b2, off2, e, hb, hc⟩ := h (by rw [List.length_append]; omega)
  injection e with e
  injection e with e1 e2
  subst e1 e2
  exact ⟨b, off + xs.length, rfl, hb, fun j u hu => by
    rw [Nat.add_assoc]
    exact hc _ u (by rw [List.getElem?_append_right (by omega), Nat.add_sub_cancel_left]; exact hu)⟩
/-- The cells of what is left of a list of sounds. -/
theorem drop_snds {w : World} {A : Option Addr} {n c : Nat} {L : List Snd} (k : Nat) (hk : k ≤ n) (hnc : n ≤ c) (hl : L.length = n) (h : CellsIn w A (sndsC L)) : CellsIn w (if c = k then A else Option.map (fun x => x.add (k * 3)) A) (sndsC (L.drop k)) := by
  by_cases e : k = n
  · rw [List.drop_eq_nil_of_le (by omega)]; exact CellsIn.nil _ _
  · rw [if_neg (by omega)]
    obtain ⟨b, off, rfl, hb, hc⟩ := h (by rw [sndsC_len]; omega)
    rw [show sndsC L = sndsC (L.take k) ++ sndsC (L.drop k) by rw [← sndsC_cat, List.take_append_drop]] at h
    have := h.right
    rw [sndsC_len, List.length_take, Nat.min_eq_left (by omega)] at this
    rw [Option.map_some, add_at]; exact this
theorem drop_ints {w : World} {A : Option Addr} {n c : Nat} {L : List Int} (k : Nat) (hk : k ≤ n) (hnc : n ≤ c) (hl : L.length = n) (h : CellsIn w A (ints L)) : CellsIn w (if c = k then A else Option.map (fun x => x.add k) A) (ints (L.drop k)) := by
  by_cases e : k = n
  · rw [List.drop_eq_nil_of_le (by omega)]; exact CellsIn.nil _ _
  · rw [if_neg (by omega)]
    obtain ⟨b, off, rfl, hb, hc⟩ := h (by rw [ints_len]; omega)
    rw [show ints L = ints (L.take k) ++ ints (L.drop k) by unfold ints; rw [← List.map_append, List.take_append_drop]] at h
    have := h.right
    rw [ints_len, List.length_take, Nat.min_eq_left (by omega)] at this
    rw [Option.map_some, add_at]; exact this
theorem asc_take2 {M : List Int} {k f : Nat} (h : M.Pairwise (· ≤ ·)) (hf : (ltB (k : Int) M).length = f) : M.drop f = M.filter (fun a => !decide (a ≤ (k : Int))) := by
  have e := asc_cut (k : Int) h
  conv => lhs; rw [← e]
  unfold ltB at hf
  exact List.drop_left' hf
theorem cin_none (w : World) : CIn w none 0 none 0 ⟨[], []⟩ := ⟨rfl, rfl, by decide, by decide, fun x hx => (by cases hx), CellsIn.nil _ _, CellsIn.nil _ _⟩
set_option maxHeartbeats 8000000 in
theorem csplit_any (C : Clu) (A : Option Addr) (n c : Nat) (B : Option Addr) (m d : Nat) (a : Int) (w : World) (hC : CIn w A n B m C) (hnc : n ≤ c) (hmd : m ≤ d) :
    Calls Try.prog 27 #[.agg #[.slice A n c, .slice B m d], .int .i64 a] w (SpPost C a w) := by
  have HC := Lib.hid hC
  have hn := hC.hn
  have hm := hC.hm
  obtain ⟨g0, hg0⟩ : ∃ z, z = w.heap.size := ⟨_, rfl⟩
  obtain ⟨g1, hg1⟩ : ∃ z, z = w.heap.size + 1 := ⟨_, rfl⟩
  obtain ⟨g2, hg2⟩ : ∃ z, z = g1 + 1 := ⟨_, rfl⟩
  obtain ⟨W0, hW0⟩ : ∃ z, z = ((w.alloc (.cells #[.slice A n c, .slice B m d] 25)).alloc (.cells #[.slice none 0 0, .slice none 0 0] 25)).alloc (.cells #[.slice none 0 0, .slice none 0 0] 25) := ⟨_, rfl⟩
  have V1 := Lib.hid (show Hp w [cbox g2 none 0 0 none 0 0, cbox g1 none 0 0 none 0 0, cbox g0 A n c B m d] W0 by
    have := (((Hp.start w).cbox_new A n c B m d).cbox_new none 0 0 none 0 0).cbox_new none 0 0 none 0 0
    rw [show ((w.alloc (.cells #[.slice A n c, .slice B m d] 25)).alloc (.cells #[.slice none 0 0, .slice none 0 0] 25)).heap.size = w.heap.size + 1 + 1 by simp, show (w.alloc (.cells #[.slice A n c, .slice B m d] 25)).heap.size = w.heap.size + 1 by simp, ← hg1, ← hg2, ← hg0] at this
    rw [hW0]; exact this)
  obtain ⟨b0, b1, bg⟩ := V1.out.cbox_at (i := 2) rfl
  have HW0 := Lib.hid hW0
  have HG0 := Lib.hid hg0
  have HG1 := Lib.hid hg1
  have HG2 := Lib.hid hg2
  clear hC hW0 hg0 hg1 hg2
  go_enter Try.func27, Try.ntmps27
  go_upto_region 1 with fail
  rw [← HW0.out, ← HG1.out, ← HG2.out, ← HG0.out]
  go_wp2_with fail
  refine (cvalid_any C A n c B m d _ (HC.out.below V1.out.below)).mono ?_
  rintro e w1 ⟨rfl, hb1⟩
  have V2 := Lib.hid (V1.out.go hb1)
  clear hb1 b0 b1 bg
  obtain ⟨b0, b1, bg⟩ := V2.out.cbox_at (i := 2) rfl
  obtain ⟨⟨e0, ef, eg⟩, e1, eh⟩ := V2.out.cbox_st (i := 1) rfl
  obtain ⟨⟨f0, ff, fg⟩, f1, fh⟩ := V2.out.cbox_st (i := 0) rfl
  obtain ⟨v, hv⟩ : ∃ v, vC C = v := ⟨_, rfl⟩
  have HV := Lib.hid hv
  rw [hv]
  clear hv
  by_cases h0 : v = 0
  · subst h0
    by_cases hr : a < 0 ∨ (n : Int) < a
    · have HR := Lib.hid (show splR C a = (⟨[], []⟩, ⟨[], []⟩, 6) by unfold splR; rw [if_neg (by simp [HV.out]), if_pos (by rw [HC.out.ls]; exact hr)])
      obtain ⟨⟨y0, yf, yg⟩, y1, yh⟩ := (V2.out.cbox_set (i := 1) rfl none 0 0 none 0 0).cbox_st (i := 0) rfl
      have V3 := Lib.hid ((V2.out.cbox_set (i := 1) rfl none 0 0 none 0 0).cbox_set (i := 0) rfl none 0 0 none 0 0)
      obtain ⟨u0, u1, ug⟩ := V3.out.cbox_at (i := 1) rfl
      obtain ⟨t0, t1, tg⟩ := V3.out.cbox_at (i := 0) rfl
      rcases hr with hr | hr
      · go_wp2_with fail
        refine bodyPost_ret (v := .tuple #[.agg #[.slice none 0 0, .slice none 0 0], .agg #[.slice none 0 0, .slice none 0 0], .int .i64 6]) (by simp [results, Try.results27, go_sem, u0, u1, t0, t1]) rfl ?_
        refine ⟨none, 0, 0, none, 0, 0, none, 0, 0, none, 0, 0, by rw [HR.out], ?_, ?_, V3.out.below⟩ <;> (rw [HR.out]; exact cin_none _)
      · have hr0 : ¬ a < 0 := by omega
        go_wp2_with fail
        refine bodyPost_ret (v := .tuple #[.agg #[.slice none 0 0, .slice none 0 0], .agg #[.slice none 0 0, .slice none 0 0], .int .i64 6]) (by simp [results, Try.results27, go_sem, u0, u1, t0, t1]) rfl ?_
        refine ⟨none, 0, 0, none, 0, 0, none, 0, 0, none, 0, 0, by rw [HR.out], ?_, ?_, V3.out.below⟩ <;> (rw [HR.out]; exact cin_none _)
    · obtain ⟨k, rfl⟩ := Int.eq_ofNat_of_zero_le (show 0 ≤ a by omega)
      have hkn : k ≤ n := by omega
      have hkc : k ≤ c := by omega
      have HR := Lib.hid (show splR C (k : Int) = (spA C k, spB C k, 0) by unfold splR; rw [if_neg (by simp [HV.out]), if_neg (by rw [HC.out.ls]; omega)]; rfl)
      have HK := Lib.hid (vC_zero.1 HV.out)
      clear hr
      go_upto_region 6 with fail
      obtain ⟨z, hz⟩ : ∃ z, (k : Int) + 1 = z := ⟨_, rfl⟩
      have hwk : IntKind.i64.wrap ((k : Int) + 1) = z := by rw [IntWalk.i64_in _ (by omega)]; exact hz
      have HZ := Lib.hid hz
      clear hz
      obtain ⟨fi, hfi⟩ : ∃ fi, (ltB k C.b).length = fi := ⟨_, rfl⟩
      have hfm : fi ≤ m := by rw [← hfi, ← HC.out.lb]; exact List.length_filter_le _ _
      have HFI := Lib.hid hfi
      go_wp2_with fail
      refine (search_any C.b m d B z _ HK.out.asc HC.out.lb hm (HC.out.cb.below V2.out.below)).mono ?_
      rintro r w2 ⟨bb, rfl, hb2⟩
      rw [show C.b.countP (· < z) = fi by rw [← HZ.out, cnt_lt, hfi]]
      have V3 := Lib.hid (V2.out.go hb2)
      clear hb2 b0 b1 bg e0 e1 eg f0 f1 fg hfi hwk
      obtain ⟨b0, b1, bg⟩ := V3.out.cbox_at (i := 2) rfl
      go_upto_region 7 with fail
      have hfd : fi ≤ d := by omega
      have CTS := Lib.hid (show CellsIn w A (sndsC (C.s.take k)) by
        have := HC.out.cs
        rw [show sndsC C.s = sndsC (C.s.take k) ++ sndsC (C.s.drop k) by rw [← sndsC_cat, List.take_append_drop]] at this
        exact this.left)
      have CUT := Lib.hid (asc_cut (k : Int) HK.out.asc)
      have CTB := Lib.hid (show CellsIn w B (ints (ltB k C.b)) by
        have := HC.out.cb
        rw [← CUT.out, show ints (C.b.filter (fun a => decide (a ≤ (k : Int))) ++ C.b.filter (fun a => !decide (a ≤ (k : Int)))) = ints (ltB k C.b) ++ ints (C.b.filter (fun a => !decide (a ≤ (k : Int)))) by unfold ints ltB; rw [List.map_append]] at this
        exact this.left)
      go_cut [10] (fun r wx => ∃ g QS fS QN fN, r = .pointer (some ⟨g, 0, none⟩) ∧ Hp w [cbox g QS k fS QN fi fN, snds QS k fS (C.s.take k), nums QN fi fN (ltB k C.b), cbox g2 none 0 0 none 0 0, cbox g1 none 0 0 none 0 0, cbox g0 A n c B m d] wx)
      case first =>
        have hKp : Keep [(⟨g0, 0, none⟩, .slice A n c), (⟨g0, 1, none⟩, .slice B m d)] w2 := List.forall_mem_cons.2 ⟨⟨(V3.out.cbox_at (i := 2) rfl).1, (V3.out.cbox_at (i := 2) rfl).2.2⟩, List.forall_mem_cons.2 ⟨⟨(V3.out.cbox_at (i := 2) rfl).2.1, (V3.out.cbox_at (i := 2) rfl).2.2⟩, fun _ h => by simp at h⟩⟩
        refine wp_region_held_drew (S := Keep _) (by kernel_rfl) hKp.drew (fun hHeld => ?_)
        obtain ⟨wf, hwf⟩ : ∃ z, z = w2.drew := ⟨_, rfl⟩
        have Vwf := Lib.hid (show Hp w (cbox g2 none 0 0 none 0 0 :: cbox g1 none 0 0 none 0 0 :: cbox g0 A n c B m d :: []) wf by rw [hwf]; exact V3.out.go (bdrew _))
        have Bwf := Lib.hid (show Below w2.heap.size w2 wf by rw [hwf]; exact bdrew _)
        rw [← hwf] at hHeld ⊢
        clear hwf hKp
        refine tk 0 ?_ rfl ?_ ?_; rotate_left; focus (intro w hSw; clear hSw; go_simp; try (with_reducible rfl))
        try simp only [Act.put, sA, sZ, sS]
        refine tk 1 ?_ rfl ?_ ?_; rotate_left
        · intro wl hSw
          have hSw : Keep _ wl := hSw
          have k0 := (hSw _ (.head _)).1
          dsimp only at k0
          clear hSw
          go_simp
          try (with_reducible rfl)
        try simp only [Act.put, sA, sZ, sS]
        refine tk 2 ?_ rfl ?_ ?_; rotate_left; focus (intro w hSw; clear hSw; go_simp; try (with_reducible rfl))
        try simp only [Act.put, sA, sZ, sS]
        refine tk 3 ?_ rfl ?_ ?_; rotate_left; focus (intro w hSw; clear hSw; go_simp; try (with_reducible rfl))
        try simp only [Act.put, sA, sZ, sS]
        refine tk 5 ?_ rfl ?_ ?_; rotate_left; focus (intro w hSw; clear hSw; go_simp; try (with_reducible rfl))
        try simp only [Act.put, sA, sZ, sS]
        refine tk 6 ?_ rfl ?_ ?_; rotate_left
        · intro wl hSw
          have hSw : Keep _ wl := hSw
          have k0 := (hSw _ (.tail _ (.head _))).1
          dsimp only at k0
          clear hSw
          go_simp
          try (with_reducible rfl)
        try simp only [Act.put, sA, sZ, sS]
        refine tk 7 ?_ rfl ?_ ?_; rotate_left; focus (intro w hSw; clear hSw; go_simp; try (with_reducible rfl))
        try simp only [Act.put, sA, sZ, sS]
        refine tk 8 ?_ rfl ?_ ?_; rotate_left; focus (intro w hSw; clear hSw; go_simp; try (with_reducible rfl))
        try simp only [Act.put, sA, sZ, sS]
        refine wpAnyH_ready (rs := [4, 11]) (by kernel_rfl) (by simp) ?_
        refine AllReadyH.cons (List.getElem?_toArray.trans rfl) (fun K hK => ?_) ?_
        · go_simp
          refine (clone_any (C.s.take k) k c A _ (by rw [List.length_take, HC.out.ls]; omega) (by omega) (CTS.out.below Vwf.out.below)).mono ?_
          rintro e w_4 ⟨QS, fS, rfl, hpS⟩
          have V_4 := Lib.hid (show Hp w (snds QS k fS (C.s.take k) :: cbox g2 none 0 0 none 0 0 :: cbox g1 none 0 0 none 0 0 :: cbox g0 A n c B m d :: []) w_4 from Vwf.out.join hpS)
          have hbS := hpS.below
          try go_wp2_with fail
          refine hK.out _ _ (hHeld.go hbS) (fun hHeld => ?_)
          clear hK K
          try simp only [Act.put, sA, sZ, sS]
          refine wpAnyH_ready (rs := [9, 11]) (by kernel_rfl) (by simp) ?_
          refine AllReadyH.cons (List.getElem?_toArray.trans rfl) (fun K hK => ?_) ?_
          · go_simp
            refine (clone_nums (ltB k C.b) B fi d _ _ [] (Hp.start _) HFI.out (by omega) (CTB.out.below V_4.out.below)).mono ?_
            rintro e w_4_9 ⟨QN, fN, rfl, hpN, _⟩
            have V_4_9 := Lib.hid (show Hp w (nums QN fi fN (ltB k C.b) :: snds QS k fS (C.s.take k) :: cbox g2 none 0 0 none 0 0 :: cbox g1 none 0 0 none 0 0 :: cbox g0 A n c B m d :: []) w_4_9 from V_4.out.join hpN)
            have hbN := hpN.below
            try go_wp2_with fail
            refine hK.out _ _ (hHeld.go hbN) (fun hHeld => ?_)
            clear hK K
            try simp only [Act.put, sA, sZ, sS]
            refine tk 10 ?_ rfl ?_ ?_; rotate_left; focus (intro w hSw; clear hSw; go_simp; try (with_reducible rfl))
            try simp only [Act.put, sA, sZ, sS]
            refine wpAnyH_ready (rs := [11]) (by kernel_rfl) (by simp) ?_
            refine AllReadyH.cons (List.getElem?_toArray.trans rfl) (fun K hK => ?_) AllReadyH.nil
            obtain ⟨w_4_9_11, hw_4_9_11⟩ : ∃ z, z = w_4_9.alloc (.cells #[.slice none 0 0, .slice none 0 0] 25) := ⟨_, rfl⟩
            obtain ⟨g_4_9_11, hg_4_9_11⟩ : ∃ z, z = w_4_9.heap.size := ⟨_, rfl⟩
            have V_4_9_11 := Lib.hid (show Hp w (cbox g_4_9_11 none 0 0 none 0 0 :: nums QN fi fN (ltB k C.b) :: snds QS k fS (C.s.take k) :: cbox g2 none 0 0 none 0 0 :: cbox g1 none 0 0 none 0 0 :: cbox g0 A n c B m d :: []) w_4_9_11 by rw [hw_4_9_11, hg_4_9_11]; exact V_4_9.out.cbox_new none 0 0 none 0 0)
            have B_4_9_11 := Lib.hid (show Below w_4_9.heap.size w_4_9 w_4_9_11 by rw [hw_4_9_11]; exact bnew _ _)
            have HW_4_9_11 := Lib.hid hw_4_9_11
            have HG_4_9_11 := Lib.hid hg_4_9_11
            clear hw_4_9_11 hg_4_9_11
            go_simp
            try rw [← HW_4_9_11.out]
            try rw [← HG_4_9_11.out]
            refine hK.out _ _ (hHeld.go B_4_9_11.out) (fun hHeld => ?_)
            clear hK K
            try simp only [Act.put, sA, sZ, sS]
            refine wpAnyH_ready (rs := [12]) (by kernel_rfl) (by simp) ?_
            refine AllReadyH.cons (List.getElem?_toArray.trans rfl) (fun K hK => ?_) AllReadyH.nil
            obtain ⟨⟨s0, s1, s2⟩, s3, s4⟩ := V_4_9_11.out.cbox_st (i := 0) rfl
            have VX := Lib.hid (V_4_9_11.out.cbox_set (i := 0) rfl QS k fS QN fi fN)
            go_simp
            refine hK.out _ _ (List.forall_mem_cons.2 ⟨⟨(VX.out.cbox_at (i := 5) rfl).1, (VX.out.cbox_at (i := 5) rfl).2.2⟩, List.forall_mem_cons.2 ⟨⟨(VX.out.cbox_at (i := 5) rfl).2.1, (VX.out.cbox_at (i := 5) rfl).2.2⟩, fun _ h => by simp at h⟩⟩) (fun hHeld => ?_)
            clear hK K
            try simp only [Act.put, sA, sZ, sS]
            refine wpAnyH_done (by kernel_rfl) ?_ _
            clear hHeld
            go_wp2_with fail
            go_meet
            exact ⟨_, _, _, _, _, rfl, VX.out.pick [0, 2, 1, 3, 4, 5] (by decide) rfl⟩
          refine AllReadyH.cons (List.getElem?_toArray.trans rfl) (fun K hK => ?_) ?_
          · obtain ⟨w_4_11, hw_4_11⟩ : ∃ z, z = w_4.alloc (.cells #[.slice none 0 0, .slice none 0 0] 25) := ⟨_, rfl⟩
            obtain ⟨g_4_11, hg_4_11⟩ : ∃ z, z = w_4.heap.size := ⟨_, rfl⟩
            have V_4_11 := Lib.hid (show Hp w (cbox g_4_11 none 0 0 none 0 0 :: snds QS k fS (C.s.take k) :: cbox g2 none 0 0 none 0 0 :: cbox g1 none 0 0 none 0 0 :: cbox g0 A n c B m d :: []) w_4_11 by rw [hw_4_11, hg_4_11]; exact V_4.out.cbox_new none 0 0 none 0 0)
            have B_4_11 := Lib.hid (show Below w_4.heap.size w_4 w_4_11 by rw [hw_4_11]; exact bnew _ _)
            have HW_4_11 := Lib.hid hw_4_11
            have HG_4_11 := Lib.hid hg_4_11
            clear hw_4_11 hg_4_11
            go_simp
            try rw [← HW_4_11.out]
            try rw [← HG_4_11.out]
            refine hK.out _ _ (hHeld.go B_4_11.out) (fun hHeld => ?_)
            clear hK K
            try simp only [Act.put, sA, sZ, sS]
            refine wpAnyH_ready (rs := [9]) (by kernel_rfl) (by simp) ?_
            refine AllReadyH.cons (List.getElem?_toArray.trans rfl) (fun K hK => ?_) AllReadyH.nil
            go_simp
            refine (clone_nums (ltB k C.b) B fi d _ _ [] (Hp.start _) HFI.out (by omega) (CTB.out.below V_4_11.out.below)).mono ?_
            rintro e w_4_11_9 ⟨QN, fN, rfl, hpN, _⟩
            have V_4_11_9 := Lib.hid (show Hp w (nums QN fi fN (ltB k C.b) :: cbox g_4_11 none 0 0 none 0 0 :: snds QS k fS (C.s.take k) :: cbox g2 none 0 0 none 0 0 :: cbox g1 none 0 0 none 0 0 :: cbox g0 A n c B m d :: []) w_4_11_9 from V_4_11.out.join hpN)
            have hbN := hpN.below
            try go_wp2_with fail
            refine hK.out _ _ (hHeld.go hbN) (fun hHeld => ?_)
            clear hK K
            try simp only [Act.put, sA, sZ, sS]
            refine tk 10 ?_ rfl ?_ ?_; rotate_left; focus (intro w hSw; clear hSw; go_simp; try (with_reducible rfl))
            try simp only [Act.put, sA, sZ, sS]
            refine wpAnyH_ready (rs := [12]) (by kernel_rfl) (by simp) ?_
            refine AllReadyH.cons (List.getElem?_toArray.trans rfl) (fun K hK => ?_) AllReadyH.nil
            obtain ⟨⟨s0, s1, s2⟩, s3, s4⟩ := V_4_11_9.out.cbox_st (i := 1) rfl
            have VX := Lib.hid (V_4_11_9.out.cbox_set (i := 1) rfl QS k fS QN fi fN)
            go_simp
            refine hK.out _ _ (List.forall_mem_cons.2 ⟨⟨(VX.out.cbox_at (i := 5) rfl).1, (VX.out.cbox_at (i := 5) rfl).2.2⟩, List.forall_mem_cons.2 ⟨⟨(VX.out.cbox_at (i := 5) rfl).2.1, (VX.out.cbox_at (i := 5) rfl).2.2⟩, fun _ h => by simp at h⟩⟩) (fun hHeld => ?_)
            clear hK K
            try simp only [Act.put, sA, sZ, sS]
            refine wpAnyH_done (by kernel_rfl) ?_ _
            clear hHeld
            go_wp2_with fail
            go_meet
            exact ⟨_, _, _, _, _, rfl, VX.out.pick [1, 2, 0, 3, 4, 5] (by decide) rfl⟩
          exact AllReadyH.nil
        refine AllReadyH.cons (List.getElem?_toArray.trans rfl) (fun K hK => ?_) ?_
        · obtain ⟨w_11, hw_11⟩ : ∃ z, z = wf.alloc (.cells #[.slice none 0 0, .slice none 0 0] 25) := ⟨_, rfl⟩
          obtain ⟨g_11, hg_11⟩ : ∃ z, z = wf.heap.size := ⟨_, rfl⟩
          have V_11 := Lib.hid (show Hp w (cbox g_11 none 0 0 none 0 0 :: cbox g2 none 0 0 none 0 0 :: cbox g1 none 0 0 none 0 0 :: cbox g0 A n c B m d :: []) w_11 by rw [hw_11, hg_11]; exact Vwf.out.cbox_new none 0 0 none 0 0)
          have B_11 := Lib.hid (show Below wf.heap.size wf w_11 by rw [hw_11]; exact bnew _ _)
          have HW_11 := Lib.hid hw_11
          have HG_11 := Lib.hid hg_11
          clear hw_11 hg_11
          go_simp
          try rw [← HW_11.out]
          try rw [← HG_11.out]
          refine hK.out _ _ (hHeld.go B_11.out) (fun hHeld => ?_)
          clear hK K
          try simp only [Act.put, sA, sZ, sS]
          refine wpAnyH_ready (rs := [4]) (by kernel_rfl) (by simp) ?_
          refine AllReadyH.cons (List.getElem?_toArray.trans rfl) (fun K hK => ?_) AllReadyH.nil
          go_simp
          refine (clone_any (C.s.take k) k c A _ (by rw [List.length_take, HC.out.ls]; omega) (by omega) (CTS.out.below V_11.out.below)).mono ?_
          rintro e w_11_4 ⟨QS, fS, rfl, hpS⟩
          have V_11_4 := Lib.hid (show Hp w (snds QS k fS (C.s.take k) :: cbox g_11 none 0 0 none 0 0 :: cbox g2 none 0 0 none 0 0 :: cbox g1 none 0 0 none 0 0 :: cbox g0 A n c B m d :: []) w_11_4 from V_11.out.join hpS)
          have hbS := hpS.below
          try go_wp2_with fail
          refine hK.out _ _ (hHeld.go hbS) (fun hHeld => ?_)
          clear hK K
          try simp only [Act.put, sA, sZ, sS]
          refine wpAnyH_ready (rs := [9]) (by kernel_rfl) (by simp) ?_
          refine AllReadyH.cons (List.getElem?_toArray.trans rfl) (fun K hK => ?_) AllReadyH.nil
          go_simp
          refine (clone_nums (ltB k C.b) B fi d _ _ [] (Hp.start _) HFI.out (by omega) (CTB.out.below V_11_4.out.below)).mono ?_
          rintro e w_11_4_9 ⟨QN, fN, rfl, hpN, _⟩
          have V_11_4_9 := Lib.hid (show Hp w (nums QN fi fN (ltB k C.b) :: snds QS k fS (C.s.take k) :: cbox g_11 none 0 0 none 0 0 :: cbox g2 none 0 0 none 0 0 :: cbox g1 none 0 0 none 0 0 :: cbox g0 A n c B m d :: []) w_11_4_9 from V_11_4.out.join hpN)
          have hbN := hpN.below
          try go_wp2_with fail
          refine hK.out _ _ (hHeld.go hbN) (fun hHeld => ?_)
          clear hK K
          try simp only [Act.put, sA, sZ, sS]
          refine tk 10 ?_ rfl ?_ ?_; rotate_left; focus (intro w hSw; clear hSw; go_simp; try (with_reducible rfl))
          try simp only [Act.put, sA, sZ, sS]
          refine wpAnyH_ready (rs := [12]) (by kernel_rfl) (by simp) ?_
          refine AllReadyH.cons (List.getElem?_toArray.trans rfl) (fun K hK => ?_) AllReadyH.nil
          obtain ⟨⟨s0, s1, s2⟩, s3, s4⟩ := V_11_4_9.out.cbox_st (i := 2) rfl
          have VX := Lib.hid (V_11_4_9.out.cbox_set (i := 2) rfl QS k fS QN fi fN)
          go_simp
          refine hK.out _ _ (List.forall_mem_cons.2 ⟨⟨(VX.out.cbox_at (i := 5) rfl).1, (VX.out.cbox_at (i := 5) rfl).2.2⟩, List.forall_mem_cons.2 ⟨⟨(VX.out.cbox_at (i := 5) rfl).2.1, (VX.out.cbox_at (i := 5) rfl).2.2⟩, fun _ h => by simp at h⟩⟩) (fun hHeld => ?_)
          clear hK K
          try simp only [Act.put, sA, sZ, sS]
          refine wpAnyH_done (by kernel_rfl) ?_ _
          clear hHeld
          go_wp2_with fail
          go_meet
          exact ⟨_, _, _, _, _, rfl, VX.out.pick [2, 1, 0, 3, 4, 5] (by decide) rfl⟩
        exact AllReadyH.nil
      case rest =>
        obtain ⟨g3, QS, fS, QN, fN, rfl, hV⟩ := hcut
        have V4 := Lib.hid hV
        clear hV V3 b0 b1 bg
        obtain ⟨b0, b1, bg⟩ := V4.out.cbox_at (i := 5) rfl
        go_upto_region 8 with fail
        have hk0 : (0 : Int) ≤ (k : Int) := by omega
        have hwn : IntKind.i64.wrap (-(k : Int)) = -(k : Int) := IntWalk.i64_in _ (by omega)
        obtain ⟨AA, hAA⟩ : ∃ z, z = (if c = k then A else Option.map (fun x => x.add (k * 3)) A) := ⟨_, rfl⟩
        have CDS := Lib.hid (show CellsIn w AA (sndsC (C.s.drop k)) by rw [hAA]; exact drop_snds k hkn hnc HC.out.ls HC.out.cs)
        obtain ⟨BB, hBB⟩ : ∃ z, z = (if d = fi then B else Option.map (fun x => x.add fi) B) := ⟨_, rfl⟩
        have HAA := Lib.hid hAA
        have HBB := Lib.hid hBB
        have HRE := Lib.hid (asc_take2 HK.out.asc HFI.out)
        have CDB := Lib.hid (show CellsIn w BB (ints (C.b.filter (fun a => !decide (a ≤ (k : Int))))) by rw [← HRE.out, hBB]; exact drop_ints fi hfm hmd HC.out.lb HC.out.cb)
        have HRL := Lib.hid (show (C.b.filter (fun a => !decide (a ≤ (k : Int)))).length = m - fi by rw [← HRE.out, List.length_drop, HC.out.lb])
        have HRB := Lib.hid (show ∀ a ∈ C.b.filter (fun a => !decide (a ≤ (k : Int))), -1000000000 ≤ a ∧ a ≤ 1000000000 from fun a ha => by
          have h1 := HK.out.brk a (List.mem_filter.1 ha).1
          have h2 := HK.out.ns
          omega)
        have HGT := Lib.hid (show gtB (k : Int) C.b = upB (-(k : Int)) (C.b.filter (fun a => !decide (a ≤ (k : Int)))) by unfold gtB upB; congr 1)
        clear hAA hBB
        go_cut [11] (fun r wx => ∃ g QT fT QM fM, r = .pointer (some ⟨g, 0, none⟩) ∧ Hp w [cbox g QT (n - k) fT QM (m - fi) fM, snds QT (n - k) fT (C.s.drop k), nums QM (m - fi) fM (gtB k C.b), cbox g3 QS k fS QN fi fN, snds QS k fS (C.s.take k), nums QN fi fN (ltB k C.b), cbox g2 none 0 0 none 0 0, cbox g1 none 0 0 none 0 0, cbox g0 A n c B m d] wx)
        case first =>
          have hKp : Keep [(⟨g0, 0, none⟩, .slice A n c), (⟨g0, 1, none⟩, .slice B m d)] wc := List.forall_mem_cons.2 ⟨⟨(V4.out.cbox_at (i := 5) rfl).1, (V4.out.cbox_at (i := 5) rfl).2.2⟩, List.forall_mem_cons.2 ⟨⟨(V4.out.cbox_at (i := 5) rfl).2.1, (V4.out.cbox_at (i := 5) rfl).2.2⟩, fun _ h => by simp at h⟩⟩
          refine wp_region_held_drew (S := Keep _) (by kernel_rfl) hKp.drew (fun hHeld => ?_)
          obtain ⟨wg, hwg⟩ : ∃ z, z = wc.drew := ⟨_, rfl⟩
          have Vwg := Lib.hid (show Hp w (cbox g3 QS k fS QN fi fN :: snds QS k fS (C.s.take k) :: nums QN fi fN (ltB k C.b) :: cbox g2 none 0 0 none 0 0 :: cbox g1 none 0 0 none 0 0 :: cbox g0 A n c B m d :: []) wg by rw [hwg]; exact V4.out.go (bdrew _))
          have Bwg := Lib.hid (show Below wc.heap.size wc wg by rw [hwg]; exact bdrew _)
          rw [← hwg] at hHeld ⊢
          clear hwg hKp
          refine tk 0 ?_ rfl ?_ ?_; rotate_left; focus (intro w hSw; clear hSw; go_simp; try (with_reducible rfl))
          try simp only [Act.put, sA, sZ, sS]
          refine tk 1 ?_ rfl ?_ ?_; rotate_left
          · intro wl hSw
            have hSw : Keep _ wl := hSw
            have k0 := (hSw _ (.head _)).1
            dsimp only at k0
            clear hSw
            go_simp
            try (with_reducible rfl)
          try simp only [Act.put, sA, sZ, sS]
          refine tk 2 ?_ rfl ?_ ?_; rotate_left; focus (intro w hSw; clear hSw; go_simp; try (with_reducible rfl))
          try simp only [Act.put, sA, sZ, sS]
          refine tk 3 ?_ rfl ?_ ?_; rotate_left
          · intro w hSw; clear hSw; go_simp; rw [← HAA.out]; try (with_reducible rfl)
          try simp only [Act.put, sA, sZ, sS]
          refine tk 5 ?_ rfl ?_ ?_; rotate_left; focus (intro w hSw; clear hSw; go_simp; try (with_reducible rfl))
          try simp only [Act.put, sA, sZ, sS]
          refine tk 6 ?_ rfl ?_ ?_; rotate_left
          · intro wl hSw
            have hSw : Keep _ wl := hSw
            have k0 := (hSw _ (.tail _ (.head _))).1
            dsimp only at k0
            clear hSw
            go_simp
            try (with_reducible rfl)
          try simp only [Act.put, sA, sZ, sS]
          refine tk 7 ?_ rfl ?_ ?_; rotate_left; focus (intro w hSw; clear hSw; go_simp; try (with_reducible rfl))
          try simp only [Act.put, sA, sZ, sS]
          refine tk 8 ?_ rfl ?_ ?_; rotate_left
          · intro w hSw; clear hSw; go_simp; rw [← HBB.out]; try (with_reducible rfl)
          try simp only [Act.put, sA, sZ, sS]
          refine tk 9 ?_ rfl ?_ ?_; rotate_left; focus (intro w hSw; clear hSw; go_simp; try (with_reducible rfl))
          try simp only [Act.put, sA, sZ, sS]
          refine tk 10 ?_ rfl ?_ ?_; rotate_left; focus (intro w hSw; clear hSw; go_simp; try (with_reducible rfl))
          try simp only [Act.put, sA, sZ, sS]
          refine wpAnyH_ready (rs := [4, 13]) (by kernel_rfl) (by simp) ?_
          refine AllReadyH.cons (List.getElem?_toArray.trans rfl) (fun K hK => ?_) ?_
          · go_simp
            refine (clone_any (C.s.drop k) (n - k) (c - k) _ _ (by rw [List.length_drop, HC.out.ls]) (by omega) (CDS.out.below Vwg.out.below)).mono ?_
            rintro e w_4 ⟨QT, fT, rfl, hpT⟩
            have V_4 := Lib.hid (show Hp w (snds QT (n - k) fT (C.s.drop k) :: cbox g3 QS k fS QN fi fN :: snds QS k fS (C.s.take k) :: nums QN fi fN (ltB k C.b) :: cbox g2 none 0 0 none 0 0 :: cbox g1 none 0 0 none 0 0 :: cbox g0 A n c B m d :: []) w_4 from Vwg.out.join hpT)
            have hbT := hpT.below
            try go_wp2_with fail
            refine hK.out _ _ (hHeld.go hbT) (fun hHeld => ?_)
            clear hK K
            try simp only [Act.put, sA, sZ, sS]
            refine wpAnyH_ready (rs := [11, 13]) (by kernel_rfl) (by simp) ?_
            refine AllReadyH.cons (List.getElem?_toArray.trans rfl) (fun K hK => ?_) ?_
            · go_simp
              refine (moved_any (C.b.filter (fun a => !decide (a ≤ (k : Int)))) (m - fi) (d - fi) _ (-(k : Int)) _ HRL.out (by omega) (by omega) HRB.out (CDB.out.below V_4.out.below)).mono ?_
              rintro e w_4_11 ⟨QM, fM, rfl, hpM⟩
              rw [HRL.out] at hpM
              try rw [HRL.out]
              have V_4_11 := Lib.hid (show Hp w (nums QM (m - fi) fM (gtB k C.b) :: snds QT (n - k) fT (C.s.drop k) :: cbox g3 QS k fS QN fi fN :: snds QS k fS (C.s.take k) :: nums QN fi fN (ltB k C.b) :: cbox g2 none 0 0 none 0 0 :: cbox g1 none 0 0 none 0 0 :: cbox g0 A n c B m d :: []) w_4_11 from V_4.out.join (show Hp _ [nums QM (m - fi) fM (gtB k C.b)] _ by rw [HGT.out]; exact hpM))
              have hbM := hpM.below
              try go_wp2_with fail
              refine hK.out _ _ (hHeld.go hbM) (fun hHeld => ?_)
              clear hK K
              try simp only [Act.put, sA, sZ, sS]
              refine tk 12 ?_ rfl ?_ ?_; rotate_left; focus (intro w hSw; clear hSw; go_simp; try (with_reducible rfl))
              try simp only [Act.put, sA, sZ, sS]
              refine wpAnyH_ready (rs := [13]) (by kernel_rfl) (by simp) ?_
              refine AllReadyH.cons (List.getElem?_toArray.trans rfl) (fun K hK => ?_) AllReadyH.nil
              obtain ⟨w_4_11_13, hw_4_11_13⟩ : ∃ z, z = w_4_11.alloc (.cells #[.slice none 0 0, .slice none 0 0] 25) := ⟨_, rfl⟩
              obtain ⟨g_4_11_13, hg_4_11_13⟩ : ∃ z, z = w_4_11.heap.size := ⟨_, rfl⟩
              have V_4_11_13 := Lib.hid (show Hp w (cbox g_4_11_13 none 0 0 none 0 0 :: nums QM (m - fi) fM (gtB k C.b) :: snds QT (n - k) fT (C.s.drop k) :: cbox g3 QS k fS QN fi fN :: snds QS k fS (C.s.take k) :: nums QN fi fN (ltB k C.b) :: cbox g2 none 0 0 none 0 0 :: cbox g1 none 0 0 none 0 0 :: cbox g0 A n c B m d :: []) w_4_11_13 by rw [hw_4_11_13, hg_4_11_13]; exact V_4_11.out.cbox_new none 0 0 none 0 0)
              have B_4_11_13 := Lib.hid (show Below w_4_11.heap.size w_4_11 w_4_11_13 by rw [hw_4_11_13]; exact bnew _ _)
              have HW_4_11_13 := Lib.hid hw_4_11_13
              have HG_4_11_13 := Lib.hid hg_4_11_13
              clear hw_4_11_13 hg_4_11_13
              go_simp
              try rw [← HW_4_11_13.out]
              try rw [← HG_4_11_13.out]
              refine hK.out _ _ (hHeld.go B_4_11_13.out) (fun hHeld => ?_)
              clear hK K
              try simp only [Act.put, sA, sZ, sS]
              refine wpAnyH_ready (rs := [14]) (by kernel_rfl) (by simp) ?_
              refine AllReadyH.cons (List.getElem?_toArray.trans rfl) (fun K hK => ?_) AllReadyH.nil
              obtain ⟨⟨s0, s1, s2⟩, s3, s4⟩ := V_4_11_13.out.cbox_st (i := 0) rfl
              have VX := Lib.hid (V_4_11_13.out.cbox_set (i := 0) rfl QT (n - k) fT QM (m - fi) fM)
              go_simp
              refine hK.out _ _ (List.forall_mem_cons.2 ⟨⟨(VX.out.cbox_at (i := 8) rfl).1, (VX.out.cbox_at (i := 8) rfl).2.2⟩, List.forall_mem_cons.2 ⟨⟨(VX.out.cbox_at (i := 8) rfl).2.1, (VX.out.cbox_at (i := 8) rfl).2.2⟩, fun _ h => by simp at h⟩⟩) (fun hHeld => ?_)
              clear hK K
              try simp only [Act.put, sA, sZ, sS]
              refine wpAnyH_done (by kernel_rfl) ?_ _
              clear hHeld
              go_wp2_with fail
              go_meet
              exact ⟨_, _, _, _, _, rfl, VX.out.pick [0, 2, 1, 3, 4, 5, 6, 7, 8] (by decide) rfl⟩
            refine AllReadyH.cons (List.getElem?_toArray.trans rfl) (fun K hK => ?_) ?_
            · obtain ⟨w_4_13, hw_4_13⟩ : ∃ z, z = w_4.alloc (.cells #[.slice none 0 0, .slice none 0 0] 25) := ⟨_, rfl⟩
              obtain ⟨g_4_13, hg_4_13⟩ : ∃ z, z = w_4.heap.size := ⟨_, rfl⟩
              have V_4_13 := Lib.hid (show Hp w (cbox g_4_13 none 0 0 none 0 0 :: snds QT (n - k) fT (C.s.drop k) :: cbox g3 QS k fS QN fi fN :: snds QS k fS (C.s.take k) :: nums QN fi fN (ltB k C.b) :: cbox g2 none 0 0 none 0 0 :: cbox g1 none 0 0 none 0 0 :: cbox g0 A n c B m d :: []) w_4_13 by rw [hw_4_13, hg_4_13]; exact V_4.out.cbox_new none 0 0 none 0 0)
              have B_4_13 := Lib.hid (show Below w_4.heap.size w_4 w_4_13 by rw [hw_4_13]; exact bnew _ _)
              have HW_4_13 := Lib.hid hw_4_13
              have HG_4_13 := Lib.hid hg_4_13
              clear hw_4_13 hg_4_13
              go_simp
              try rw [← HW_4_13.out]
              try rw [← HG_4_13.out]
              refine hK.out _ _ (hHeld.go B_4_13.out) (fun hHeld => ?_)
              clear hK K
              try simp only [Act.put, sA, sZ, sS]
              refine wpAnyH_ready (rs := [11]) (by kernel_rfl) (by simp) ?_
              refine AllReadyH.cons (List.getElem?_toArray.trans rfl) (fun K hK => ?_) AllReadyH.nil
              go_simp
              refine (moved_any (C.b.filter (fun a => !decide (a ≤ (k : Int)))) (m - fi) (d - fi) _ (-(k : Int)) _ HRL.out (by omega) (by omega) HRB.out (CDB.out.below V_4_13.out.below)).mono ?_
              rintro e w_4_13_11 ⟨QM, fM, rfl, hpM⟩
              rw [HRL.out] at hpM
              try rw [HRL.out]
              have V_4_13_11 := Lib.hid (show Hp w (nums QM (m - fi) fM (gtB k C.b) :: cbox g_4_13 none 0 0 none 0 0 :: snds QT (n - k) fT (C.s.drop k) :: cbox g3 QS k fS QN fi fN :: snds QS k fS (C.s.take k) :: nums QN fi fN (ltB k C.b) :: cbox g2 none 0 0 none 0 0 :: cbox g1 none 0 0 none 0 0 :: cbox g0 A n c B m d :: []) w_4_13_11 from V_4_13.out.join (show Hp _ [nums QM (m - fi) fM (gtB k C.b)] _ by rw [HGT.out]; exact hpM))
              have hbM := hpM.below
              try go_wp2_with fail
              refine hK.out _ _ (hHeld.go hbM) (fun hHeld => ?_)
              clear hK K
              try simp only [Act.put, sA, sZ, sS]
              refine tk 12 ?_ rfl ?_ ?_; rotate_left; focus (intro w hSw; clear hSw; go_simp; try (with_reducible rfl))
              try simp only [Act.put, sA, sZ, sS]
              refine wpAnyH_ready (rs := [14]) (by kernel_rfl) (by simp) ?_
              refine AllReadyH.cons (List.getElem?_toArray.trans rfl) (fun K hK => ?_) AllReadyH.nil
              obtain ⟨⟨s0, s1, s2⟩, s3, s4⟩ := V_4_13_11.out.cbox_st (i := 1) rfl
              have VX := Lib.hid (V_4_13_11.out.cbox_set (i := 1) rfl QT (n - k) fT QM (m - fi) fM)
              go_simp
              refine hK.out _ _ (List.forall_mem_cons.2 ⟨⟨(VX.out.cbox_at (i := 8) rfl).1, (VX.out.cbox_at (i := 8) rfl).2.2⟩, List.forall_mem_cons.2 ⟨⟨(VX.out.cbox_at (i := 8) rfl).2.1, (VX.out.cbox_at (i := 8) rfl).2.2⟩, fun _ h => by simp at h⟩⟩) (fun hHeld => ?_)
              clear hK K
              try simp only [Act.put, sA, sZ, sS]
              refine wpAnyH_done (by kernel_rfl) ?_ _
              clear hHeld
              go_wp2_with fail
              go_meet
              exact ⟨_, _, _, _, _, rfl, VX.out.pick [1, 2, 0, 3, 4, 5, 6, 7, 8] (by decide) rfl⟩
            exact AllReadyH.nil
          refine AllReadyH.cons (List.getElem?_toArray.trans rfl) (fun K hK => ?_) ?_
          · obtain ⟨w_13, hw_13⟩ : ∃ z, z = wg.alloc (.cells #[.slice none 0 0, .slice none 0 0] 25) := ⟨_, rfl⟩
            obtain ⟨g_13, hg_13⟩ : ∃ z, z = wg.heap.size := ⟨_, rfl⟩
            have V_13 := Lib.hid (show Hp w (cbox g_13 none 0 0 none 0 0 :: cbox g3 QS k fS QN fi fN :: snds QS k fS (C.s.take k) :: nums QN fi fN (ltB k C.b) :: cbox g2 none 0 0 none 0 0 :: cbox g1 none 0 0 none 0 0 :: cbox g0 A n c B m d :: []) w_13 by rw [hw_13, hg_13]; exact Vwg.out.cbox_new none 0 0 none 0 0)
            have B_13 := Lib.hid (show Below wg.heap.size wg w_13 by rw [hw_13]; exact bnew _ _)
            have HW_13 := Lib.hid hw_13
            have HG_13 := Lib.hid hg_13
            clear hw_13 hg_13
            go_simp
            try rw [← HW_13.out]
            try rw [← HG_13.out]
            refine hK.out _ _ (hHeld.go B_13.out) (fun hHeld => ?_)
            clear hK K
            try simp only [Act.put, sA, sZ, sS]
            refine wpAnyH_ready (rs := [4]) (by kernel_rfl) (by simp) ?_
            refine AllReadyH.cons (List.getElem?_toArray.trans rfl) (fun K hK => ?_) AllReadyH.nil
            go_simp
            refine (clone_any (C.s.drop k) (n - k) (c - k) _ _ (by rw [List.length_drop, HC.out.ls]) (by omega) (CDS.out.below V_13.out.below)).mono ?_
            rintro e w_13_4 ⟨QT, fT, rfl, hpT⟩
            have V_13_4 := Lib.hid (show Hp w (snds QT (n - k) fT (C.s.drop k) :: cbox g_13 none 0 0 none 0 0 :: cbox g3 QS k fS QN fi fN :: snds QS k fS (C.s.take k) :: nums QN fi fN (ltB k C.b) :: cbox g2 none 0 0 none 0 0 :: cbox g1 none 0 0 none 0 0 :: cbox g0 A n c B m d :: []) w_13_4 from V_13.out.join hpT)
            have hbT := hpT.below
            try go_wp2_with fail
            refine hK.out _ _ (hHeld.go hbT) (fun hHeld => ?_)
            clear hK K
            try simp only [Act.put, sA, sZ, sS]
            refine wpAnyH_ready (rs := [11]) (by kernel_rfl) (by simp) ?_
            refine AllReadyH.cons (List.getElem?_toArray.trans rfl) (fun K hK => ?_) AllReadyH.nil
            go_simp
            refine (moved_any (C.b.filter (fun a => !decide (a ≤ (k : Int)))) (m - fi) (d - fi) _ (-(k : Int)) _ HRL.out (by omega) (by omega) HRB.out (CDB.out.below V_13_4.out.below)).mono ?_
            rintro e w_13_4_11 ⟨QM, fM, rfl, hpM⟩
            rw [HRL.out] at hpM
            try rw [HRL.out]
            have V_13_4_11 := Lib.hid (show Hp w (nums QM (m - fi) fM (gtB k C.b) :: snds QT (n - k) fT (C.s.drop k) :: cbox g_13 none 0 0 none 0 0 :: cbox g3 QS k fS QN fi fN :: snds QS k fS (C.s.take k) :: nums QN fi fN (ltB k C.b) :: cbox g2 none 0 0 none 0 0 :: cbox g1 none 0 0 none 0 0 :: cbox g0 A n c B m d :: []) w_13_4_11 from V_13_4.out.join (show Hp _ [nums QM (m - fi) fM (gtB k C.b)] _ by rw [HGT.out]; exact hpM))
            have hbM := hpM.below
            try go_wp2_with fail
            refine hK.out _ _ (hHeld.go hbM) (fun hHeld => ?_)
            clear hK K
            try simp only [Act.put, sA, sZ, sS]
            refine tk 12 ?_ rfl ?_ ?_; rotate_left; focus (intro w hSw; clear hSw; go_simp; try (with_reducible rfl))
            try simp only [Act.put, sA, sZ, sS]
            refine wpAnyH_ready (rs := [14]) (by kernel_rfl) (by simp) ?_
            refine AllReadyH.cons (List.getElem?_toArray.trans rfl) (fun K hK => ?_) AllReadyH.nil
            obtain ⟨⟨s0, s1, s2⟩, s3, s4⟩ := V_13_4_11.out.cbox_st (i := 2) rfl
            have VX := Lib.hid (V_13_4_11.out.cbox_set (i := 2) rfl QT (n - k) fT QM (m - fi) fM)
            go_simp
            refine hK.out _ _ (List.forall_mem_cons.2 ⟨⟨(VX.out.cbox_at (i := 8) rfl).1, (VX.out.cbox_at (i := 8) rfl).2.2⟩, List.forall_mem_cons.2 ⟨⟨(VX.out.cbox_at (i := 8) rfl).2.1, (VX.out.cbox_at (i := 8) rfl).2.2⟩, fun _ h => by simp at h⟩⟩) (fun hHeld => ?_)
            clear hK K
            try simp only [Act.put, sA, sZ, sS]
            refine wpAnyH_done (by kernel_rfl) ?_ _
            clear hHeld
            go_wp2_with fail
            go_meet
            exact ⟨_, _, _, _, _, rfl, VX.out.pick [2, 1, 0, 3, 4, 5, 6, 7, 8] (by decide) rfl⟩
          exact AllReadyH.nil
        case rest =>
          obtain ⟨g4, QT, fT, QM, fM, rfl, hV⟩ := hcut
          have V5 := Lib.hid hV
          clear hV V4 b0 b1 bg
          obtain ⟨wd, rfl⟩ : ∃ wd : World, wd = wc := ⟨_, rfl⟩
          go_upto_region 9 with fail
          have hKp : Keep [(⟨g3, 0, none⟩, .slice QS k fS), (⟨g3, 1, none⟩, .slice QN fi fN), (⟨g4, 0, none⟩, .slice QT (n - k) fT), (⟨g4, 1, none⟩, .slice QM (m - fi) fM)] wd := List.forall_mem_cons.2 ⟨⟨(V5.out.cbox_at (i := 3) rfl).1, (V5.out.cbox_at (i := 3) rfl).2.2⟩, List.forall_mem_cons.2 ⟨⟨(V5.out.cbox_at (i := 3) rfl).2.1, (V5.out.cbox_at (i := 3) rfl).2.2⟩, List.forall_mem_cons.2 ⟨⟨(V5.out.cbox_at (i := 0) rfl).1, (V5.out.cbox_at (i := 0) rfl).2.2⟩, List.forall_mem_cons.2 ⟨⟨(V5.out.cbox_at (i := 0) rfl).2.1, (V5.out.cbox_at (i := 0) rfl).2.2⟩, fun _ h => by simp at h⟩⟩⟩⟩
          refine wp_region_held_drew (S := Keep _) (by kernel_rfl) hKp.drew (fun hHeld => ?_)
          obtain ⟨wh, hwh⟩ : ∃ z, z = wd.drew := ⟨_, rfl⟩
          have Vwh := Lib.hid (show Hp w (cbox g4 QT (n - k) fT QM (m - fi) fM :: snds QT (n - k) fT (C.s.drop k) :: nums QM (m - fi) fM (gtB k C.b) :: cbox g3 QS k fS QN fi fN :: snds QS k fS (C.s.take k) :: nums QN fi fN (ltB k C.b) :: cbox g2 none 0 0 none 0 0 :: cbox g1 none 0 0 none 0 0 :: cbox g0 A n c B m d :: []) wh by rw [hwh]; exact V5.out.go (bdrew _))
          have Bwh := Lib.hid (show Below wd.heap.size wd wh by rw [hwh]; exact bdrew _)
          rw [← hwh] at hHeld ⊢
          clear hwh hKp
          refine tk 0 ?_ rfl ?_ ?_; rotate_left
          · intro wl hSw
            have hSw : Keep _ wl := hSw
            have k0 := (hSw _ (.head _)).1
            have k1 := (hSw _ (.tail _ (.head _))).1
            dsimp only at k0 k1
            clear hSw
            go_simp
            try (with_reducible rfl)
          try simp only [Act.put, sA, sZ, sS]
          refine tk 1 ?_ rfl ?_ ?_; rotate_left
          · intro wl hSw
            have hSw : Keep _ wl := hSw
            have k0 := (hSw _ (.tail _ (.tail _ (.head _)))).1
            have k1 := (hSw _ (.tail _ (.tail _ (.tail _ (.head _))))).1
            dsimp only at k0 k1
            clear hSw
            go_simp
            try (with_reducible rfl)
          try simp only [Act.put, sA, sZ, sS]
          refine wpAnyH_ready (rs := [2]) (by kernel_rfl) (by simp) ?_
          refine AllReadyH.cons (List.getElem?_toArray.trans rfl) (fun K hK => ?_) AllReadyH.nil
          obtain ⟨⟨s0, s1, s2⟩, s3, s4⟩ := Vwh.out.cbox_st (i := 7) rfl
          have X2 := Lib.hid (Vwh.out.cbox_set (i := 7) rfl QS k fS QN fi fN)
          go_simp
          clear s0 s1 s2 s3 s4
          refine hK.out _ _ (List.forall_mem_cons.2 ⟨⟨(X2.out.cbox_at (i := 3) rfl).1, (X2.out.cbox_at (i := 3) rfl).2.2⟩, List.forall_mem_cons.2 ⟨⟨(X2.out.cbox_at (i := 3) rfl).2.1, (X2.out.cbox_at (i := 3) rfl).2.2⟩, List.forall_mem_cons.2 ⟨⟨(X2.out.cbox_at (i := 0) rfl).1, (X2.out.cbox_at (i := 0) rfl).2.2⟩, List.forall_mem_cons.2 ⟨⟨(X2.out.cbox_at (i := 0) rfl).2.1, (X2.out.cbox_at (i := 0) rfl).2.2⟩, fun _ h => by simp at h⟩⟩⟩⟩) (fun hHeld => ?_)
          clear hK K
          try simp only [Act.put, sA, sZ, sS]
          refine wpAnyH_ready (rs := [3]) (by kernel_rfl) (by simp) ?_
          refine AllReadyH.cons (List.getElem?_toArray.trans rfl) (fun K hK => ?_) AllReadyH.nil
          obtain ⟨⟨s0, s1, s2⟩, s3, s4⟩ := X2.out.cbox_st (i := 6) rfl
          have X3 := Lib.hid (X2.out.cbox_set (i := 6) rfl QT (n - k) fT QM (m - fi) fM)
          go_simp
          clear s0 s1 s2 s3 s4
          refine hK.out _ _ (List.forall_mem_cons.2 ⟨⟨(X3.out.cbox_at (i := 3) rfl).1, (X3.out.cbox_at (i := 3) rfl).2.2⟩, List.forall_mem_cons.2 ⟨⟨(X3.out.cbox_at (i := 3) rfl).2.1, (X3.out.cbox_at (i := 3) rfl).2.2⟩, List.forall_mem_cons.2 ⟨⟨(X3.out.cbox_at (i := 0) rfl).1, (X3.out.cbox_at (i := 0) rfl).2.2⟩, List.forall_mem_cons.2 ⟨⟨(X3.out.cbox_at (i := 0) rfl).2.1, (X3.out.cbox_at (i := 0) rfl).2.2⟩, fun _ h => by simp at h⟩⟩⟩⟩) (fun hHeld => ?_)
          clear hK K
          try simp only [Act.put, sA, sZ, sS]
          refine tk 4 ?_ rfl ?_ ?_; rotate_left; focus (intro w hSw; clear hSw; go_simp; try (with_reducible rfl))
          try simp only [Act.put, sA, sZ, sS]
          refine wpAnyH_done (by kernel_rfl) ?_ _
          clear hHeld
          obtain ⟨u0, u1, ug⟩ := X3.out.cbox_at (i := 7) rfl
          obtain ⟨t0, t1, tg⟩ := X3.out.cbox_at (i := 6) rfl
          go_wp2_with fail
          refine bodyPost_ret (v := .tuple #[.agg #[.slice QS k fS, .slice QN fi fN], .agg #[.slice QT (n - k) fT, .slice QM (m - fi) fM], .int .i64 0]) (by simp [results, Try.results27, go_sem, u0, u1, t0, t1]) rfl ?_
          refine ⟨QS, k, fS, QN, fi, fN, QT, n - k, fT, QM, m - fi, fM, by rw [HR.out], ?_, ?_, X3.out.below⟩
          · rw [HR.out]
            exact ⟨by show (C.s.take k).length = k; rw [List.length_take, HC.out.ls]; omega, HFI.out, by omega, by omega, fun x hx => HC.out.ht x (List.mem_of_mem_take hx), X3.out.cells (i := 4) (A := QS) (c := fS) rfl rfl, X3.out.cells (i := 5) (A := QN) (c := fN) rfl rfl⟩
          · rw [HR.out]
            exact ⟨by show (C.s.drop k).length = n - k; rw [List.length_drop, HC.out.ls], by show (gtB (k : Int) C.b).length = m - fi; unfold gtB; rw [List.length_map, HRL.out], by omega, by omega, fun x hx => HC.out.ht x (List.mem_of_mem_drop hx), X3.out.cells (i := 1) (A := QT) (c := fT) rfl rfl, X3.out.cells (i := 2) (A := QM) (c := fM) rfl rfl⟩
  · have HR := Lib.hid (show splR C a = (⟨[], []⟩, ⟨[], []⟩, v) by unfold splR; rw [HV.out, if_pos h0])
    have hne : (v != 0) = true := bne_yes h0
    obtain ⟨⟨y0, yf, yg⟩, y1, yh⟩ := (V2.out.cbox_set (i := 1) rfl none 0 0 none 0 0).cbox_st (i := 0) rfl
    have V3 := Lib.hid ((V2.out.cbox_set (i := 1) rfl none 0 0 none 0 0).cbox_set (i := 0) rfl none 0 0 none 0 0)
    obtain ⟨u0, u1, ug⟩ := V3.out.cbox_at (i := 1) rfl
    obtain ⟨t0, t1, tg⟩ := V3.out.cbox_at (i := 0) rfl
    clear h0
    go_wp2_with fail
    refine bodyPost_ret (v := .tuple #[.agg #[.slice none 0 0, .slice none 0 0], .agg #[.slice none 0 0, .slice none 0 0], .int .i64 v]) (by simp [results, Try.results27, go_sem, u0, u1, t0, t1]) rfl ?_
    refine ⟨none, 0, 0, none, 0, 0, none, 0, 0, none, 0, 0, by rw [HR.out], ?_, ?_, V3.out.below⟩ <;> (rw [HR.out]; exact cin_none _)
end Go.Proofs.Ythcdbhancfpldaa
