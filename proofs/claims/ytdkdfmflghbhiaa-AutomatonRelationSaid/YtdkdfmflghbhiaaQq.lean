/- Contracts of the program: the first word that leads to a pair that is wanted. -/
import Derived.Test.YtdkdfmflghbhiaaQp
import Derived.Test.YtdkdfmflghbhiaaAMn
namespace Go.Proofs.Ytdkdfmflghbhiaa
open Go.RowKit
set_option linter.unusedVariables false
set_option linter.unusedSimpArgs false
set_option maxRecDepth 100000

theorem keep_num {W w : World} {b o j : Nat} {L : List Int} {x : Int} (h : CellsIn W (some ⟨b, o, none⟩) (ints L)) (hb : Below W.heap.size W w) (hx : L[j]? = some x) : w.cell? ⟨b, o + j, none⟩ = some (.int .i64 x) ∧ b < w.heap.size := by
  obtain ⟨b', o', e, h1, h2⟩ := bad_int (h.below hb) hx
  injection e with e; injection e with e1 e2
  subst e1; subst e2
  exact ⟨h2, h1⟩
theorem fdOf_get {pa : List Nat} {j p : Nat} (h0 : 0 < j) (h : pa[j]? = some p) : (fdOf pa)[j]? = some (p : Int) := by
  have e := fdOf_at h0 h
  have hj : j < (fdOf pa).length := by rw [fdOf_len]; exact (List.getElem?_eq_some_iff.1 h).1
  rw [List.getD_eq_getElem?_getD, List.getElem?_eq_getElem hj] at e
  rw [List.getElem?_eq_getElem hj]; exact congrArg some e
/-- What a search for a word returns. -/
def FwPost (k : Nat) (P : List Nat → Bool) (W : World) (e : Ending) (w' : World) : Prop :=
  Below W.heap.size W w' ∧ ((Fw k P none ∧ e = .returned (.tuple #[.slice none 0 0, .int .i64 10])) ∨ ∃ u G n c, Fw k P (some u) ∧ e = .returned (.tuple #[.slice G n c, .int .i64 0]) ∧ Hp W [nums G n c (u.map Int.ofNat)] w' ∧ n ≤ 2000000)
set_option maxHeartbeats 8000000 in
theorem firstWord_anyD (G : World → Prop) (hG : ∀ w w' : World, G w → Below w.heap.size w w' → G w') (f : Int × Int → Bool) (ga gb : Nat) (A B : Au) (k : Nat) (ps : List (Int × Int)) (pa : List Nat) (nx : List Int)
    (hF : ∀ (w : World) (p : Int × Int), G w → p ∈ ps → Calls Try.prog 42 #[.agg #[.int .i64 p.1, .int .i64 p.2], .pointer (some ⟨ga, 0, none⟩), .pointer (some ⟨gb, 0, none⟩)] w fun e w' => e = .returned (.bool (f p)) ∧ Below w.heap.size w w')
    (hr : Rch2 A B k ps pa nx) (h0 : f (-1, -1) = false) (hk0 : 0 < k) (hk8 : k ≤ 8) (Ap : Option Addr) (np cp : Nat) (An : Option Addr) (nn cn : Nat) (Af : Option Addr) (nf cf : Nat) (W : World)
    (hn : ps.length = np) (hb : np ≤ 2000000) (hc : CellsIn W Ap (pcells ps)) (hnf : pa.length = nf) (hcf : CellsIn W Af (ints (fdOf pa))) (hw : G W) :
    Calls Try.prog 37 #[.agg #[.int .i64 (k : Int), .slice Ap np cp, .slice An nn cn, .slice Af nf cf], .func (.func 42) #[] #[.pointer (some ⟨ga, 0, none⟩), .pointer (some ⟨gb, 0, none⟩)]] W (FwPost k (fun u => f (A.run A.st u, B.run B.st u)) W) := by
  have HG := Lib.hid hG
  have HF := Lib.hid hF
  have HR := Lib.hid hr
  have HN := Lib.hid hn
  have HC := Lib.hid hc
  have HNF := Lib.hid hnf
  have HCF := Lib.hid hcf
  have HW := Lib.hid hw
  have H0 := Lib.hid h0
  clear hG hF hr hn hc hnf hcf hw h0
  obtain ⟨wz, hwz⟩ : ∃ z, z = (W.alloc (.cells #[.int .i64 (k : Int), .slice Ap np cp, .slice An nn cn, .slice Af nf cf] 52)) := ⟨_, rfl⟩
  have V := Lib.hid (show Hp W [box 52 W.heap.size [.int .i64 (k : Int), .slice Ap np cp, .slice An nn cn, .slice Af nf cf]] wz by
    have := ((Hp.start W).box_new 52 [.int .i64 (k : Int), .slice Ap np cp, .slice An nn cn, .slice Af nf cf])
    rw [hwz]; simpa using this)
  have HZ := Lib.hid hwz
  clear hwz
  have HGW := Lib.hid (HG.out W wz HW.out V.out.below)
  go_enter Try.func37, Try.ntmps37
  go_upto_region 1 with fail
  rw [← HZ.out]
  clear HZ
  obtain ⟨r0_0, _, r0_9⟩ := V.out.box_at (i := 0) (j := 0) rfl rfl
  obtain ⟨r0_1, _, _⟩ := V.out.box_at (i := 0) (j := 1) rfl rfl
  obtain ⟨r0_2, _, _⟩ := V.out.box_at (i := 0) (j := 2) rfl rfl
  obtain ⟨r0_3, _, _⟩ := V.out.box_at (i := 0) (j := 3) rfl rfl
  go_wp2_with fail
  refine (index_anyD G HG.out f ga gb ps HF.out Ap np cp wz HN.out hb (HC.out.below V.out.below) HGW.out).mono ?_
  rintro e w1 ⟨b1, ⟨rfl, hno⟩ | ⟨i, p, rfl, hi, hfi, hmin⟩⟩
  · have H1 := Lib.hid (show FwPost k (fun u => f (A.run A.st u, B.run B.st u)) W (.returned (.tuple #[.slice none 0 0, .int .i64 10])) w1 from ⟨btwo V.out.below b1, .inl ⟨.no (HR.out.none_want hk0 H0.out hno), rfl⟩⟩)
    clear hno b1
    go_wp2_with fail
    go_ret2
    exact H1.out
  · obtain ⟨u, hu, hlet⟩ := HR.out.wd hk0 hi
    have HL := Lib.hid (HR.out.some_want hk0 H0.out hi hfi hmin hu)
    have V1 := Lib.hid (V.out.go b1)
    have hip : i < np := by rw [← HN.out]; exact (List.getElem?_eq_some_iff.1 hi).1
    have HU := Lib.hid hu
    clear hi hfi hmin b1 hu hlet V HGW r0_9 r0_0 r0_1 r0_2 r0_3
    go_wp2_with fail
    have H1 := Lib.hid (show Hp W [nums none 0 0 (([] : List Nat).map Int.ofNat), box 52 W.heap.size [.int .i64 (k : Int), .slice Ap np cp, .slice An nn cn, .slice Af nf cf]] w1 from V1.out.nil_row (nums none 0 0 []) rfl rfl rfl)
    clear V1
    go_loopw [6, 7] (fun iv wv wr => ∃ cur : Nat, iv = .int .i64 (cur : Int) ∧ ∃ (v acc : List Nat) (G1 : Option Addr) (n1 c1 : Nat), wv = .slice G1 n1 c1 ∧ Wd k pa cur v ∧ u = v ++ acc.reverse ∧ cur < np ∧ Hp W [nums G1 n1 c1 (acc.map Int.ofNat), box 52 W.heap.size [.int .i64 (k : Int), .slice Ap np cp, .slice An nn cn, .slice Af nf cf]] wr) (fun iv _ _ => (intOf iv).toNat)
    case atStart => exact ⟨i, rfl, u, [], none, 0, 0, rfl, HU.out, by simp, hip, H1.out⟩
    case round =>
      clear H1
      obtain ⟨cur, rfl, v, acc, G1, n1, c1, rfl, hwd, huv, hcn, hV⟩ := hrel
      obtain ⟨wi, rfl⟩ : ∃ wi : World, wi = wr := ⟨_, rfl⟩
      have V := Lib.hid hV
      have HWD := Lib.hid hwd
      have HUV := Lib.hid huv
      have hn1 : n1 ≤ 2000000 := by
        have h1 := V.out.num_len (i := 0) rfl
        have h2 := HR.out.wd_len HU.out
        rw [List.length_map] at h1
        rw [huv, List.length_append, List.length_reverse] at h2
        omega
      clear hV hwd huv
      have hcl : cur < (fdOf pa).length := by rw [fdOf_len, HR.out.pal, HN.out]; exact hcn
      have hcnf : cur < nf := by have hnfn : nf = np := by rw [← HNF.out, HR.out.pal, HN.out]
                                 omega
      obtain ⟨bf, of', hAf, hbf, hcell⟩ := (HCF.out.below V.out.below).int hcl
      subst hAf
      obtain ⟨r1_0, _, r1_9⟩ := V.out.box_at (i := 1) (j := 0) rfl rfl
      obtain ⟨r1_1, _, _⟩ := V.out.box_at (i := 1) (j := 1) rfl rfl
      obtain ⟨r1_2, _, _⟩ := V.out.box_at (i := 1) (j := 2) rfl rfl
      obtain ⟨r1_3, _, _⟩ := V.out.box_at (i := 1) (j := 3) rfl rfl
      by_cases hz : cur = 0
      · subst hz
        have hpl : 0 < pa.length := by rw [HNF.out]; omega
        rw [fdOf_zero hpl, Nat.add_zero] at hcell
        have hv0 := wd_zero HWD.out
        have HUA := Lib.hid (show acc.reverse = u by rw [HUV.out, hv0]; rfl)
        clear hv0 hcl hpl
        have hlen := V.out.num_len (i := 0) rfl
        rw [List.length_map] at hlen
        have HLN := Lib.hid hlen
        clear hlen
        go_wp2_with fail
        by_cases hn0 : n1 = 0
        · subst hn0
          have he : acc = [] := List.eq_nil_of_length_eq_zero HLN.out
          have HP := Lib.hid (show FwPost k (fun u => f (A.run A.st u, B.run B.st u)) W (.returned (.tuple #[.slice G1 0 c1, .int .i64 0])) wi from ⟨V.out.below, .inr ⟨u, G1, 0, c1, .yes u HL.out, rfl, by have := V.out.pick [0] (by decide) rfl (l' := [nums G1 0 c1 (acc.map Int.ofNat)]); rw [← HUA.out, he]; rw [he] at this; exact this, Nat.zero_le _⟩⟩)
          refine (Try.slices_Reverse_int_empty G1 c1 wi).mono ?_
          rintro e w2 ⟨rfl, hw2⟩
          subst hw2
          go_wp2_with fail
          go_ret2
          exact HP.out
        · obtain ⟨g1, rfl⟩ := V.out.head (i := 0) (A := G1) (c := c1) rfl rfl (show 0 < n1 by omega)
          have hX : ∀ j, j < (acc.map Int.ofNat).length → wi.cell? ⟨g1, 0 + j, none⟩ = some (.int .i64 ((acc.map Int.ofNat).getD j 0)) := fun j hj => by rw [Nat.zero_add]; exact (V.out.num_at (i := 0) rfl hj).1
          have hY : ∀ j, j < n1 → wi.frozen? ⟨g1, 0 + j, none⟩ = false := fun j hj => by rw [Nat.zero_add]; exact (V.out.num_at (i := 0) rfl (j := j) (by rw [List.length_map, HLN.out]; exact hj)).2.1
          refine (Try.slices_Reverse_int_cells g1 0 n1 c1 (acc.map Int.ofNat) wi (by rw [List.length_map, HLN.out]; exact Nat.le_refl _) (by omega) hX hY).mono ?_
          rintro e w2 ⟨rfl, q, hw2⟩
          have HP := Lib.hid (show FwPost k (fun u => f (A.run A.st u, B.run B.st u)) W (.returned (.tuple #[.slice (some ⟨g1, 0, none⟩) n1 c1, .int .i64 0])) w2 from by
            have h1 : List.take n1 (acc.map Int.ofNat) = acc.map Int.ofNat := List.take_of_length_le (by rw [List.length_map, HLN.out]; exact Nat.le_refl _)
            have h2 := (V.out.go (bdrewN wi q)).num_all (i := 0) rfl (L2 := u.map Int.ofNat) (by rw [← HUA.out]; simp)
            rw [h1] at hw2
            have h3 : List.map (Value.int .i64) (acc.map Int.ofNat).reverse = ints (u.map Int.ofNat) := by rw [← HUA.out]; simp [ints]
            rw [h3] at hw2
            rw [← hw2] at h2
            exact ⟨h2.below, .inr ⟨u, _, n1, c1, .yes u HL.out, rfl, h2.pick [0] (by decide) rfl, hn1⟩⟩)
          clear hX hY hw2
          go_wp2_with fail
          go_ret2
          exact HP.out
      · obtain ⟨p, v', hp, hv', hwp⟩ := wd_step HWD.out (by omega)
        rw [fdOf_at (by omega) hp] at hcell
        obtain ⟨hpc, hpb⟩ := HR.out.par (by omega) hp
        rw [HN.out] at hpb
        have hpb2 : p < 16000000 := by have := Nat.mul_le_mul hb hk8; omega
        have hmod : ((p : Int)).tmod (k : Int) = ((p % k : Nat) : Int) := by rw [Int.tmod_eq_emod_of_nonneg (by omega)]; simp
        have hdiv : ((p : Int)).tdiv (k : Int) = ((p / k : Nat) : Int) := by rw [Int.tdiv_eq_ediv_of_nonneg (by omega)]; simp
        have hne : ((p : Int) == -1) = false := beq_no (by omega)
        have hne2 : ((p : Int) != -1) = true := bne_yes (by omega)
        obtain ⟨pm, hpm⟩ : ∃ x, x = p % k := ⟨_, rfl⟩
        obtain ⟨pd, hpd⟩ : ∃ x, x = p / k := ⟨_, rfl⟩
        rw [← hpm] at hmod hv'
        rw [← hpd] at hdiv hpc hwp
        have hpm8 : pm < 8 := by have := Nat.mod_lt p hk0; omega
        have HWP := Lib.hid hwp
        have HUV2 := Lib.hid (show u = v' ++ (acc ++ [pm]).reverse by rw [HUV.out, hv']; simp)
        have hk1 : ¬ (k : Int) = 0 := by omega
        have hcln := V.out.num_len (i := 0) rfl
        rw [List.length_map] at hcln
        have HCL := Lib.hid hcln
        have HPB := Lib.hid hpb
        have HPP := Lib.hid hp
        have hpdn : pd < np := by omega
        have hpw : IntKind.i64.wrap (pd : Int) = (pd : Int) := IntWalk.i64_in _ (by omega)
        clear hp hv' hwp hpm hpd hpb hcl hcln HUV HWD
        go_upto_region 6 with fail
        have hKp : Keep [(⟨W.heap.size, 0, none⟩, .int .i64 (k : Int)), (⟨W.heap.size, 3, none⟩, .slice (some ⟨bf, of', none⟩) nf cf), (⟨bf, of' + cur, none⟩, .int .i64 (p : Int))] wi := List.forall_mem_cons.2 ⟨⟨r1_0, r1_9⟩, List.forall_mem_cons.2 ⟨⟨r1_3, r1_9⟩, List.forall_mem_cons.2 ⟨⟨hcell, hbf⟩, fun _ h => by simp at h⟩⟩⟩
        refine wp_region_held_drew (S := Keep _) (by kernel_rfl) hKp.drew (fun hHeld => ?_)
        have Vd := Lib.hid (V.out.go (bdrew _))
        refine tk 0 ?_ rfl ?_ ?_; rotate_left; focus (intro w hSw; clear hSw; go_simp; try (with_reducible rfl))
        try simp only [Act.put, sA, sZ, sS]
        refine tk 1 ?_ rfl ?_ ?_; rotate_left; focus (intro w hSw; clear hSw; go_simp; try (with_reducible rfl))
        try simp only [Act.put, sA, sZ, sS]
        refine tk 2 ?_ rfl ?_ ?_; rotate_left
        · intro wl hSw
          have hSw : Keep _ wl := hSw
          have k0 : wl.cell? ⟨W.heap.size, 3, none⟩ = some (.slice (some ⟨bf, of', none⟩) nf cf) := (hSw _ (.tail _ (.head _))).1
          clear hSw
          go_simp
          try (with_reducible rfl)
        try simp only [Act.put, sA, sZ, sS]
        refine tk 3 ?_ rfl ?_ ?_; rotate_left; focus (intro w hSw; clear hSw; go_simp; try (with_reducible rfl))
        try simp only [Act.put, sA, sZ, sS]
        refine tk 4 ?_ rfl ?_ ?_; rotate_left; focus (intro w hSw; clear hSw; go_simp; try (with_reducible rfl))
        try simp only [Act.put, sA, sZ, sS]
        refine tk 5 ?_ rfl ?_ ?_; rotate_left
        · intro wl hSw
          have hSw : Keep _ wl := hSw
          have k0 : wl.cell? ⟨bf, of' + cur, none⟩ = some (.int .i64 (p : Int)) := (hSw _ (.tail _ (.tail _ (.head _)))).1
          clear hSw
          go_simp
          try (with_reducible rfl)
        try simp only [Act.put, sA, sZ, sS]
        refine tk 6 ?_ rfl ?_ ?_; rotate_left; focus (intro w hSw; clear hSw; go_simp; try (with_reducible rfl))
        try simp only [Act.put, sA, sZ, sS]
        refine tk 7 ?_ rfl ?_ ?_; rotate_left
        · intro wl hSw
          have hSw : Keep _ wl := hSw
          have k0 : wl.cell? ⟨W.heap.size, 0, none⟩ = some (.int .i64 (k : Int)) := (hSw _ (.head _)).1
          clear hSw
          go_simp
          try (with_reducible rfl)
        try simp only [Act.put, sA, sZ, sS]
        refine tk 8 ?_ rfl ?_ ?_; rotate_left
        · intro w hSw; clear hSw; go_simp; rw [if_neg (show ¬ k = 0 by omega)]
        try simp only [Act.put, sA, sZ, sS]
        refine wpAnyH_ready (rs := [9]) (by kernel_rfl) (by simp) ?_
        refine AllReadyH.cons (List.getElem?_toArray.trans rfl) (fun K hK => ?_) AllReadyH.nil
        obtain ⟨w_9, hw_9⟩ : ∃ z, z = (wi.alloc (.cells #[.int .i64 (pm : Int)] 3)).drew := ⟨_, rfl⟩
        have V_9 := Lib.hid (show Hp _ (box 3 wi.heap.size [.int .i64 (pm : Int)] :: _) w_9 by rw [hw_9]; exact Vd.out.box_new 3 [.int .i64 (pm : Int)])
        have Bw_9 := Lib.hid (show Below wi.drew.heap.size wi.drew w_9 by rw [hw_9]; exact bnew _ _)
        go_simp
        rw [← hw_9]
        clear hw_9
        refine hK.out _ _ (hHeld.go Bw_9.out) (fun hHeld => ?_)
        clear hK K
        try simp only [Act.put, sA, sZ, sS]
        refine wpAnyH_ready (rs := [10]) (by kernel_rfl) (by simp) ?_
        refine AllReadyH.cons (List.getElem?_toArray.trans rfl) (fun K hK => ?_) AllReadyH.nil
        have y0 := (V_9.out.box_at (i := 0) (j := 0) rfl rfl).1
        obtain ⟨g4, cap4, w4, hr4, hv4, _⟩ := run_app_num V_9.out (i := 1) rfl 39 (pm : Int) y0 (by omega)
        have V4 := Lib.hid (show Hp W [nums (some ⟨g4, 0, none⟩) (n1 + 1) cap4 ((acc ++ [pm]).map Int.ofNat), box 52 W.heap.size [.int .i64 (k : Int), .slice Ap np cp, .slice An nn cn, .slice (some ⟨bf, of', none⟩) nf cf]] w4 by rw [ofNat_app]; exact hv4.tail)
        have KP4 := Lib.hid (show Keep [(⟨W.heap.size, 0, none⟩, .int .i64 (k : Int)), (⟨W.heap.size, 3, none⟩, .slice (some ⟨bf, of', none⟩) nf cf), (⟨bf, of' + cur, none⟩, .int .i64 (p : Int))] w4 from List.forall_mem_cons.2 ⟨⟨(V4.out.box_at (i := 1) (j := 0) rfl rfl).1, (V4.out.box_at (i := 1) (j := 0) rfl rfl).2.2⟩, List.forall_mem_cons.2 ⟨⟨(V4.out.box_at (i := 1) (j := 3) rfl rfl).1, (V4.out.box_at (i := 1) (j := 3) rfl rfl).2.2⟩, List.forall_mem_cons.2 ⟨⟨(show w4.cell? ⟨bf, of' + cur, none⟩ = some (.int .i64 (p : Int)) ∧ True ∧ bf < w4.heap.size by have := keep_num HCF.out V4.out.below (j := cur) (x := (p : Int)) (fdOf_get (by omega) HPP.out); exact ⟨this.1, trivial, this.2⟩).1, (show w4.cell? ⟨bf, of' + cur, none⟩ = some (.int .i64 (p : Int)) ∧ True ∧ bf < w4.heap.size by have := keep_num HCF.out V4.out.below (j := cur) (x := (p : Int)) (fdOf_get (by omega) HPP.out); exact ⟨this.1, trivial, this.2⟩).2.2⟩, fun _ h => by simp at h⟩⟩⟩)
        refine step_app_run rfl (.tmp 20) (.tmp 29) 39 rfl hr4 rfl rfl ?_
        refine hK.out _ _ (KP4.out) (fun hHeld => ?_)
        clear hK K
        try simp only [Act.put, sA, sZ, sS]
        refine tk 11 ?_ rfl ?_ ?_; rotate_left; focus (intro w hSw; clear hSw; go_simp; try (with_reducible rfl))
        try simp only [Act.put, sA, sZ, sS]
        refine wpAnyH_done (by kernel_rfl) ?_ _
        clear hHeld hKp
        obtain ⟨r1_0, _, r1_9⟩ := V4.out.box_at (i := 1) (j := 0) rfl rfl
        obtain ⟨r1_1, _, _⟩ := V4.out.box_at (i := 1) (j := 1) rfl rfl
        obtain ⟨r1_2, _, _⟩ := V4.out.box_at (i := 1) (j := 2) rfl rfl
        obtain ⟨r1_3, _, _⟩ := V4.out.box_at (i := 1) (j := 3) rfl rfl
        obtain ⟨hc4, hb4⟩ := KP4.out _ (.tail _ (.tail _ (.head _)))
        clear KP4
        go_upto_region 7 with fail
        have hKp : Keep [(⟨W.heap.size, 0, none⟩, .int .i64 (k : Int)), (⟨W.heap.size, 3, none⟩, .slice (some ⟨bf, of', none⟩) nf cf), (⟨bf, of' + cur, none⟩, .int .i64 (p : Int))] w4 := List.forall_mem_cons.2 ⟨⟨r1_0, r1_9⟩, List.forall_mem_cons.2 ⟨⟨r1_3, r1_9⟩, List.forall_mem_cons.2 ⟨⟨hc4, hb4⟩, fun _ h => by simp at h⟩⟩⟩
        refine wp_region_held_drew (S := Keep _) (by kernel_rfl) hKp.drew (fun hHeld => ?_)
        have V4d := Lib.hid (V4.out.go (bdrew _))
        refine tk 0 ?_ rfl ?_ ?_; rotate_left; focus (intro w hSw; clear hSw; go_simp; try (with_reducible rfl))
        try simp only [Act.put, sA, sZ, sS]
        refine tk 1 ?_ rfl ?_ ?_; rotate_left
        · intro wl hSw
          have hSw : Keep _ wl := hSw
          have k0 : wl.cell? ⟨W.heap.size, 3, none⟩ = some (.slice (some ⟨bf, of', none⟩) nf cf) := (hSw _ (.tail _ (.head _))).1
          clear hSw
          go_simp
          try (with_reducible rfl)
        try simp only [Act.put, sA, sZ, sS]
        refine tk 2 ?_ rfl ?_ ?_; rotate_left; focus (intro w hSw; clear hSw; go_simp; try (with_reducible rfl))
        try simp only [Act.put, sA, sZ, sS]
        refine tk 3 ?_ rfl ?_ ?_; rotate_left; focus (intro w hSw; clear hSw; go_simp; try (with_reducible rfl))
        try simp only [Act.put, sA, sZ, sS]
        refine tk 4 ?_ rfl ?_ ?_; rotate_left
        · intro wl hSw
          have hSw : Keep _ wl := hSw
          have k0 : wl.cell? ⟨bf, of' + cur, none⟩ = some (.int .i64 (p : Int)) := (hSw _ (.tail _ (.tail _ (.head _)))).1
          clear hSw
          go_simp
          try (with_reducible rfl)
        try simp only [Act.put, sA, sZ, sS]
        refine tk 5 ?_ rfl ?_ ?_; rotate_left; focus (intro w hSw; clear hSw; go_simp; try (with_reducible rfl))
        try simp only [Act.put, sA, sZ, sS]
        refine tk 6 ?_ rfl ?_ ?_; rotate_left
        · intro wl hSw
          have hSw : Keep _ wl := hSw
          have k0 : wl.cell? ⟨W.heap.size, 0, none⟩ = some (.int .i64 (k : Int)) := (hSw _ (.head _)).1
          clear hSw
          go_simp
          try (with_reducible rfl)
        try simp only [Act.put, sA, sZ, sS]
        refine tk 7 ?_ rfl ?_ ?_; rotate_left
        · intro w hSw; clear hSw; go_simp; rw [if_neg (show ¬ k = 0 by omega)]
        try simp only [Act.put, sA, sZ, sS]
        refine tk 8 ?_ rfl ?_ ?_; rotate_left; focus (intro w hSw; clear hSw; go_simp; try (with_reducible rfl))
        try simp only [Act.put, sA, sZ, sS]
        refine wpAnyH_done (by kernel_rfl) ?_ _
        clear hHeld hKp
        go_wp2_with fail
        go_roundw
        case rel => exact ⟨pd, rfl, v', acc ++ [pm], some ⟨g4, 0, none⟩, n1 + 1, cap4, rfl, HWP.out, HUV2.out, hpdn, V4d.out⟩
        case measure => simp [intOf]; omega
set_option maxHeartbeats 8000000 in
theorem firstWord_anyS (G : World → Prop) (hG : ∀ w w' : World, G w → Below w.heap.size w w' → G w') (f : Int × Int → Bool) (ga : Nat) (A B : Au) (k : Nat) (ps : List (Int × Int)) (pa : List Nat) (nx : List Int)
    (hF : ∀ (w : World) (p : Int × Int), G w → p ∈ ps → Calls Try.prog 38 #[.agg #[.int .i64 p.1, .int .i64 p.2], .pointer (some ⟨ga, 0, none⟩)] w fun e w' => e = .returned (.bool (f p)) ∧ Below w.heap.size w w')
    (hr : Rch2 A B k ps pa nx) (h0 : f (-1, -1) = false) (hk0 : 0 < k) (hk8 : k ≤ 8) (Ap : Option Addr) (np cp : Nat) (An : Option Addr) (nn cn : Nat) (Af : Option Addr) (nf cf : Nat) (W : World)
    (hn : ps.length = np) (hb : np ≤ 2000000) (hc : CellsIn W Ap (pcells ps)) (hnf : pa.length = nf) (hcf : CellsIn W Af (ints (fdOf pa))) (hw : G W) :
    Calls Try.prog 37 #[.agg #[.int .i64 (k : Int), .slice Ap np cp, .slice An nn cn, .slice Af nf cf], .func (.func 38) #[] #[.pointer (some ⟨ga, 0, none⟩)]] W (FwPost k (fun u => f (A.run A.st u, B.run B.st u)) W) := by
  have HG := Lib.hid hG
  have HF := Lib.hid hF
  have HR := Lib.hid hr
  have HN := Lib.hid hn
  have HC := Lib.hid hc
  have HNF := Lib.hid hnf
  have HCF := Lib.hid hcf
  have HW := Lib.hid hw
  have H0 := Lib.hid h0
  clear hG hF hr hn hc hnf hcf hw h0
  obtain ⟨wz, hwz⟩ : ∃ z, z = (W.alloc (.cells #[.int .i64 (k : Int), .slice Ap np cp, .slice An nn cn, .slice Af nf cf] 52)) := ⟨_, rfl⟩
  have V := Lib.hid (show Hp W [box 52 W.heap.size [.int .i64 (k : Int), .slice Ap np cp, .slice An nn cn, .slice Af nf cf]] wz by
    have := ((Hp.start W).box_new 52 [.int .i64 (k : Int), .slice Ap np cp, .slice An nn cn, .slice Af nf cf])
    rw [hwz]; simpa using this)
  have HZ := Lib.hid hwz
  clear hwz
  have HGW := Lib.hid (HG.out W wz HW.out V.out.below)
  go_enter Try.func37, Try.ntmps37
  go_upto_region 1 with fail
  rw [← HZ.out]
  clear HZ
  obtain ⟨r0_0, _, r0_9⟩ := V.out.box_at (i := 0) (j := 0) rfl rfl
  obtain ⟨r0_1, _, _⟩ := V.out.box_at (i := 0) (j := 1) rfl rfl
  obtain ⟨r0_2, _, _⟩ := V.out.box_at (i := 0) (j := 2) rfl rfl
  obtain ⟨r0_3, _, _⟩ := V.out.box_at (i := 0) (j := 3) rfl rfl
  go_wp2_with fail
  refine (index_anyS G HG.out f ga ps HF.out Ap np cp wz HN.out hb (HC.out.below V.out.below) HGW.out).mono ?_
  rintro e w1 ⟨b1, ⟨rfl, hno⟩ | ⟨i, p, rfl, hi, hfi, hmin⟩⟩
  · have H1 := Lib.hid (show FwPost k (fun u => f (A.run A.st u, B.run B.st u)) W (.returned (.tuple #[.slice none 0 0, .int .i64 10])) w1 from ⟨btwo V.out.below b1, .inl ⟨.no (HR.out.none_want hk0 H0.out hno), rfl⟩⟩)
    clear hno b1
    go_wp2_with fail
    go_ret2
    exact H1.out
  · obtain ⟨u, hu, hlet⟩ := HR.out.wd hk0 hi
    have HL := Lib.hid (HR.out.some_want hk0 H0.out hi hfi hmin hu)
    have V1 := Lib.hid (V.out.go b1)
    have hip : i < np := by rw [← HN.out]; exact (List.getElem?_eq_some_iff.1 hi).1
    have HU := Lib.hid hu
    clear hi hfi hmin b1 hu hlet V HGW r0_9 r0_0 r0_1 r0_2 r0_3
    go_wp2_with fail
    have H1 := Lib.hid (show Hp W [nums none 0 0 (([] : List Nat).map Int.ofNat), box 52 W.heap.size [.int .i64 (k : Int), .slice Ap np cp, .slice An nn cn, .slice Af nf cf]] w1 from V1.out.nil_row (nums none 0 0 []) rfl rfl rfl)
    clear V1
    go_loopw [6, 7] (fun iv wv wr => ∃ cur : Nat, iv = .int .i64 (cur : Int) ∧ ∃ (v acc : List Nat) (G1 : Option Addr) (n1 c1 : Nat), wv = .slice G1 n1 c1 ∧ Wd k pa cur v ∧ u = v ++ acc.reverse ∧ cur < np ∧ Hp W [nums G1 n1 c1 (acc.map Int.ofNat), box 52 W.heap.size [.int .i64 (k : Int), .slice Ap np cp, .slice An nn cn, .slice Af nf cf]] wr) (fun iv _ _ => (intOf iv).toNat)
    case atStart => exact ⟨i, rfl, u, [], none, 0, 0, rfl, HU.out, by simp, hip, H1.out⟩
    case round =>
      clear H1
      obtain ⟨cur, rfl, v, acc, G1, n1, c1, rfl, hwd, huv, hcn, hV⟩ := hrel
      obtain ⟨wi, rfl⟩ : ∃ wi : World, wi = wr := ⟨_, rfl⟩
      have V := Lib.hid hV
      have HWD := Lib.hid hwd
      have HUV := Lib.hid huv
      have hn1 : n1 ≤ 2000000 := by
        have h1 := V.out.num_len (i := 0) rfl
        have h2 := HR.out.wd_len HU.out
        rw [List.length_map] at h1
        rw [huv, List.length_append, List.length_reverse] at h2
        omega
      clear hV hwd huv
      have hcl : cur < (fdOf pa).length := by rw [fdOf_len, HR.out.pal, HN.out]; exact hcn
      have hcnf : cur < nf := by have hnfn : nf = np := by rw [← HNF.out, HR.out.pal, HN.out]
                                 omega
      obtain ⟨bf, of', hAf, hbf, hcell⟩ := (HCF.out.below V.out.below).int hcl
      subst hAf
      obtain ⟨r1_0, _, r1_9⟩ := V.out.box_at (i := 1) (j := 0) rfl rfl
      obtain ⟨r1_1, _, _⟩ := V.out.box_at (i := 1) (j := 1) rfl rfl
      obtain ⟨r1_2, _, _⟩ := V.out.box_at (i := 1) (j := 2) rfl rfl
      obtain ⟨r1_3, _, _⟩ := V.out.box_at (i := 1) (j := 3) rfl rfl
      by_cases hz : cur = 0
      · subst hz
        have hpl : 0 < pa.length := by rw [HNF.out]; omega
        rw [fdOf_zero hpl, Nat.add_zero] at hcell
        have hv0 := wd_zero HWD.out
        have HUA := Lib.hid (show acc.reverse = u by rw [HUV.out, hv0]; rfl)
        clear hv0 hcl hpl
        have hlen := V.out.num_len (i := 0) rfl
        rw [List.length_map] at hlen
        have HLN := Lib.hid hlen
        clear hlen
        go_wp2_with fail
        by_cases hn0 : n1 = 0
        · subst hn0
          have he : acc = [] := List.eq_nil_of_length_eq_zero HLN.out
          have HP := Lib.hid (show FwPost k (fun u => f (A.run A.st u, B.run B.st u)) W (.returned (.tuple #[.slice G1 0 c1, .int .i64 0])) wi from ⟨V.out.below, .inr ⟨u, G1, 0, c1, .yes u HL.out, rfl, by have := V.out.pick [0] (by decide) rfl (l' := [nums G1 0 c1 (acc.map Int.ofNat)]); rw [← HUA.out, he]; rw [he] at this; exact this, Nat.zero_le _⟩⟩)
          refine (Try.slices_Reverse_int_empty G1 c1 wi).mono ?_
          rintro e w2 ⟨rfl, hw2⟩
          subst hw2
          go_wp2_with fail
          go_ret2
          exact HP.out
        · obtain ⟨g1, rfl⟩ := V.out.head (i := 0) (A := G1) (c := c1) rfl rfl (show 0 < n1 by omega)
          have hX : ∀ j, j < (acc.map Int.ofNat).length → wi.cell? ⟨g1, 0 + j, none⟩ = some (.int .i64 ((acc.map Int.ofNat).getD j 0)) := fun j hj => by rw [Nat.zero_add]; exact (V.out.num_at (i := 0) rfl hj).1
          have hY : ∀ j, j < n1 → wi.frozen? ⟨g1, 0 + j, none⟩ = false := fun j hj => by rw [Nat.zero_add]; exact (V.out.num_at (i := 0) rfl (j := j) (by rw [List.length_map, HLN.out]; exact hj)).2.1
          refine (Try.slices_Reverse_int_cells g1 0 n1 c1 (acc.map Int.ofNat) wi (by rw [List.length_map, HLN.out]; exact Nat.le_refl _) (by omega) hX hY).mono ?_
          rintro e w2 ⟨rfl, q, hw2⟩
          have HP := Lib.hid (show FwPost k (fun u => f (A.run A.st u, B.run B.st u)) W (.returned (.tuple #[.slice (some ⟨g1, 0, none⟩) n1 c1, .int .i64 0])) w2 from by
            have h1 : List.take n1 (acc.map Int.ofNat) = acc.map Int.ofNat := List.take_of_length_le (by rw [List.length_map, HLN.out]; exact Nat.le_refl _)
            have h2 := (V.out.go (bdrewN wi q)).num_all (i := 0) rfl (L2 := u.map Int.ofNat) (by rw [← HUA.out]; simp)
            rw [h1] at hw2
            have h3 : List.map (Value.int .i64) (acc.map Int.ofNat).reverse = ints (u.map Int.ofNat) := by rw [← HUA.out]; simp [ints]
            rw [h3] at hw2
            rw [← hw2] at h2
            exact ⟨h2.below, .inr ⟨u, _, n1, c1, .yes u HL.out, rfl, h2.pick [0] (by decide) rfl, hn1⟩⟩)
          clear hX hY hw2
          go_wp2_with fail
          go_ret2
          exact HP.out
      · obtain ⟨p, v', hp, hv', hwp⟩ := wd_step HWD.out (by omega)
        rw [fdOf_at (by omega) hp] at hcell
        obtain ⟨hpc, hpb⟩ := HR.out.par (by omega) hp
        rw [HN.out] at hpb
        have hpb2 : p < 16000000 := by have := Nat.mul_le_mul hb hk8; omega
        have hmod : ((p : Int)).tmod (k : Int) = ((p % k : Nat) : Int) := by rw [Int.tmod_eq_emod_of_nonneg (by omega)]; simp
        have hdiv : ((p : Int)).tdiv (k : Int) = ((p / k : Nat) : Int) := by rw [Int.tdiv_eq_ediv_of_nonneg (by omega)]; simp
        have hne : ((p : Int) == -1) = false := beq_no (by omega)
        have hne2 : ((p : Int) != -1) = true := bne_yes (by omega)
        obtain ⟨pm, hpm⟩ : ∃ x, x = p % k := ⟨_, rfl⟩
        obtain ⟨pd, hpd⟩ : ∃ x, x = p / k := ⟨_, rfl⟩
        rw [← hpm] at hmod hv'
        rw [← hpd] at hdiv hpc hwp
        have hpm8 : pm < 8 := by have := Nat.mod_lt p hk0; omega
        have HWP := Lib.hid hwp
        have HUV2 := Lib.hid (show u = v' ++ (acc ++ [pm]).reverse by rw [HUV.out, hv']; simp)
        have hk1 : ¬ (k : Int) = 0 := by omega
        have hcln := V.out.num_len (i := 0) rfl
        rw [List.length_map] at hcln
        have HCL := Lib.hid hcln
        have HPB := Lib.hid hpb
        have HPP := Lib.hid hp
        have hpdn : pd < np := by omega
        have hpw : IntKind.i64.wrap (pd : Int) = (pd : Int) := IntWalk.i64_in _ (by omega)
        clear hp hv' hwp hpm hpd hpb hcl hcln HUV HWD
        go_upto_region 6 with fail
        have hKp : Keep [(⟨W.heap.size, 0, none⟩, .int .i64 (k : Int)), (⟨W.heap.size, 3, none⟩, .slice (some ⟨bf, of', none⟩) nf cf), (⟨bf, of' + cur, none⟩, .int .i64 (p : Int))] wi := List.forall_mem_cons.2 ⟨⟨r1_0, r1_9⟩, List.forall_mem_cons.2 ⟨⟨r1_3, r1_9⟩, List.forall_mem_cons.2 ⟨⟨hcell, hbf⟩, fun _ h => by simp at h⟩⟩⟩
        refine wp_region_held_drew (S := Keep _) (by kernel_rfl) hKp.drew (fun hHeld => ?_)
        have Vd := Lib.hid (V.out.go (bdrew _))
        refine tk 0 ?_ rfl ?_ ?_; rotate_left; focus (intro w hSw; clear hSw; go_simp; try (with_reducible rfl))
        try simp only [Act.put, sA, sZ, sS]
        refine tk 1 ?_ rfl ?_ ?_; rotate_left; focus (intro w hSw; clear hSw; go_simp; try (with_reducible rfl))
        try simp only [Act.put, sA, sZ, sS]
        refine tk 2 ?_ rfl ?_ ?_; rotate_left
        · intro wl hSw
          have hSw : Keep _ wl := hSw
          have k0 : wl.cell? ⟨W.heap.size, 3, none⟩ = some (.slice (some ⟨bf, of', none⟩) nf cf) := (hSw _ (.tail _ (.head _))).1
          clear hSw
          go_simp
          try (with_reducible rfl)
        try simp only [Act.put, sA, sZ, sS]
        refine tk 3 ?_ rfl ?_ ?_; rotate_left; focus (intro w hSw; clear hSw; go_simp; try (with_reducible rfl))
        try simp only [Act.put, sA, sZ, sS]
        refine tk 4 ?_ rfl ?_ ?_; rotate_left; focus (intro w hSw; clear hSw; go_simp; try (with_reducible rfl))
        try simp only [Act.put, sA, sZ, sS]
        refine tk 5 ?_ rfl ?_ ?_; rotate_left
        · intro wl hSw
          have hSw : Keep _ wl := hSw
          have k0 : wl.cell? ⟨bf, of' + cur, none⟩ = some (.int .i64 (p : Int)) := (hSw _ (.tail _ (.tail _ (.head _)))).1
          clear hSw
          go_simp
          try (with_reducible rfl)
        try simp only [Act.put, sA, sZ, sS]
        refine tk 6 ?_ rfl ?_ ?_; rotate_left; focus (intro w hSw; clear hSw; go_simp; try (with_reducible rfl))
        try simp only [Act.put, sA, sZ, sS]
        refine tk 7 ?_ rfl ?_ ?_; rotate_left
        · intro wl hSw
          have hSw : Keep _ wl := hSw
          have k0 : wl.cell? ⟨W.heap.size, 0, none⟩ = some (.int .i64 (k : Int)) := (hSw _ (.head _)).1
          clear hSw
          go_simp
          try (with_reducible rfl)
        try simp only [Act.put, sA, sZ, sS]
        refine tk 8 ?_ rfl ?_ ?_; rotate_left
        · intro w hSw; clear hSw; go_simp; rw [if_neg (show ¬ k = 0 by omega)]
        try simp only [Act.put, sA, sZ, sS]
        refine wpAnyH_ready (rs := [9]) (by kernel_rfl) (by simp) ?_
        refine AllReadyH.cons (List.getElem?_toArray.trans rfl) (fun K hK => ?_) AllReadyH.nil
        obtain ⟨w_9, hw_9⟩ : ∃ z, z = (wi.alloc (.cells #[.int .i64 (pm : Int)] 3)).drew := ⟨_, rfl⟩
        have V_9 := Lib.hid (show Hp _ (box 3 wi.heap.size [.int .i64 (pm : Int)] :: _) w_9 by rw [hw_9]; exact Vd.out.box_new 3 [.int .i64 (pm : Int)])
        have Bw_9 := Lib.hid (show Below wi.drew.heap.size wi.drew w_9 by rw [hw_9]; exact bnew _ _)
        go_simp
        rw [← hw_9]
        clear hw_9
        refine hK.out _ _ (hHeld.go Bw_9.out) (fun hHeld => ?_)
        clear hK K
        try simp only [Act.put, sA, sZ, sS]
        refine wpAnyH_ready (rs := [10]) (by kernel_rfl) (by simp) ?_
        refine AllReadyH.cons (List.getElem?_toArray.trans rfl) (fun K hK => ?_) AllReadyH.nil
        have y0 := (V_9.out.box_at (i := 0) (j := 0) rfl rfl).1
        obtain ⟨g4, cap4, w4, hr4, hv4, _⟩ := run_app_num V_9.out (i := 1) rfl 39 (pm : Int) y0 (by omega)
        have V4 := Lib.hid (show Hp W [nums (some ⟨g4, 0, none⟩) (n1 + 1) cap4 ((acc ++ [pm]).map Int.ofNat), box 52 W.heap.size [.int .i64 (k : Int), .slice Ap np cp, .slice An nn cn, .slice (some ⟨bf, of', none⟩) nf cf]] w4 by rw [ofNat_app]; exact hv4.tail)
        have KP4 := Lib.hid (show Keep [(⟨W.heap.size, 0, none⟩, .int .i64 (k : Int)), (⟨W.heap.size, 3, none⟩, .slice (some ⟨bf, of', none⟩) nf cf), (⟨bf, of' + cur, none⟩, .int .i64 (p : Int))] w4 from List.forall_mem_cons.2 ⟨⟨(V4.out.box_at (i := 1) (j := 0) rfl rfl).1, (V4.out.box_at (i := 1) (j := 0) rfl rfl).2.2⟩, List.forall_mem_cons.2 ⟨⟨(V4.out.box_at (i := 1) (j := 3) rfl rfl).1, (V4.out.box_at (i := 1) (j := 3) rfl rfl).2.2⟩, List.forall_mem_cons.2 ⟨⟨(show w4.cell? ⟨bf, of' + cur, none⟩ = some (.int .i64 (p : Int)) ∧ True ∧ bf < w4.heap.size by have := keep_num HCF.out V4.out.below (j := cur) (x := (p : Int)) (fdOf_get (by omega) HPP.out); exact ⟨this.1, trivial, this.2⟩).1, (show w4.cell? ⟨bf, of' + cur, none⟩ = some (.int .i64 (p : Int)) ∧ True ∧ bf < w4.heap.size by have := keep_num HCF.out V4.out.below (j := cur) (x := (p : Int)) (fdOf_get (by omega) HPP.out); exact ⟨this.1, trivial, this.2⟩).2.2⟩, fun _ h => by simp at h⟩⟩⟩)
        refine step_app_run rfl (.tmp 20) (.tmp 29) 39 rfl hr4 rfl rfl ?_
        refine hK.out _ _ (KP4.out) (fun hHeld => ?_)
        clear hK K
        try simp only [Act.put, sA, sZ, sS]
        refine tk 11 ?_ rfl ?_ ?_; rotate_left; focus (intro w hSw; clear hSw; go_simp; try (with_reducible rfl))
        try simp only [Act.put, sA, sZ, sS]
        refine wpAnyH_done (by kernel_rfl) ?_ _
        clear hHeld hKp
        obtain ⟨r1_0, _, r1_9⟩ := V4.out.box_at (i := 1) (j := 0) rfl rfl
        obtain ⟨r1_1, _, _⟩ := V4.out.box_at (i := 1) (j := 1) rfl rfl
        obtain ⟨r1_2, _, _⟩ := V4.out.box_at (i := 1) (j := 2) rfl rfl
        obtain ⟨r1_3, _, _⟩ := V4.out.box_at (i := 1) (j := 3) rfl rfl
        obtain ⟨hc4, hb4⟩ := KP4.out _ (.tail _ (.tail _ (.head _)))
        clear KP4
        go_upto_region 7 with fail
        have hKp : Keep [(⟨W.heap.size, 0, none⟩, .int .i64 (k : Int)), (⟨W.heap.size, 3, none⟩, .slice (some ⟨bf, of', none⟩) nf cf), (⟨bf, of' + cur, none⟩, .int .i64 (p : Int))] w4 := List.forall_mem_cons.2 ⟨⟨r1_0, r1_9⟩, List.forall_mem_cons.2 ⟨⟨r1_3, r1_9⟩, List.forall_mem_cons.2 ⟨⟨hc4, hb4⟩, fun _ h => by simp at h⟩⟩⟩
        refine wp_region_held_drew (S := Keep _) (by kernel_rfl) hKp.drew (fun hHeld => ?_)
        have V4d := Lib.hid (V4.out.go (bdrew _))
        refine tk 0 ?_ rfl ?_ ?_; rotate_left; focus (intro w hSw; clear hSw; go_simp; try (with_reducible rfl))
        try simp only [Act.put, sA, sZ, sS]
        refine tk 1 ?_ rfl ?_ ?_; rotate_left
        · intro wl hSw
          have hSw : Keep _ wl := hSw
          have k0 : wl.cell? ⟨W.heap.size, 3, none⟩ = some (.slice (some ⟨bf, of', none⟩) nf cf) := (hSw _ (.tail _ (.head _))).1
          clear hSw
          go_simp
          try (with_reducible rfl)
        try simp only [Act.put, sA, sZ, sS]
        refine tk 2 ?_ rfl ?_ ?_; rotate_left; focus (intro w hSw; clear hSw; go_simp; try (with_reducible rfl))
        try simp only [Act.put, sA, sZ, sS]
        refine tk 3 ?_ rfl ?_ ?_; rotate_left; focus (intro w hSw; clear hSw; go_simp; try (with_reducible rfl))
        try simp only [Act.put, sA, sZ, sS]
        refine tk 4 ?_ rfl ?_ ?_; rotate_left
        · intro wl hSw
          have hSw : Keep _ wl := hSw
          have k0 : wl.cell? ⟨bf, of' + cur, none⟩ = some (.int .i64 (p : Int)) := (hSw _ (.tail _ (.tail _ (.head _)))).1
          clear hSw
          go_simp
          try (with_reducible rfl)
        try simp only [Act.put, sA, sZ, sS]
        refine tk 5 ?_ rfl ?_ ?_; rotate_left; focus (intro w hSw; clear hSw; go_simp; try (with_reducible rfl))
        try simp only [Act.put, sA, sZ, sS]
        refine tk 6 ?_ rfl ?_ ?_; rotate_left
        · intro wl hSw
          have hSw : Keep _ wl := hSw
          have k0 : wl.cell? ⟨W.heap.size, 0, none⟩ = some (.int .i64 (k : Int)) := (hSw _ (.head _)).1
          clear hSw
          go_simp
          try (with_reducible rfl)
        try simp only [Act.put, sA, sZ, sS]
        refine tk 7 ?_ rfl ?_ ?_; rotate_left
        · intro w hSw; clear hSw; go_simp; rw [if_neg (show ¬ k = 0 by omega)]
        try simp only [Act.put, sA, sZ, sS]
        refine tk 8 ?_ rfl ?_ ?_; rotate_left; focus (intro w hSw; clear hSw; go_simp; try (with_reducible rfl))
        try simp only [Act.put, sA, sZ, sS]
        refine wpAnyH_done (by kernel_rfl) ?_ _
        clear hHeld hKp
        go_wp2_with fail
        go_roundw
        case rel => exact ⟨pd, rfl, v', acc ++ [pm], some ⟨g4, 0, none⟩, n1 + 1, cap4, rfl, HWP.out, HUV2.out, hpdn, V4d.out⟩
        case measure => simp [intOf]; omega
end Go.Proofs.Ytdkdfmflghbhiaa
