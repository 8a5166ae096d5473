/- Contracts of the program: a line with a sign, the first line. -/
import Derived.Test.YtfgnekbkcmpdiaaGreatDoorOf
import Derived.Test.YtfgnekbkcmpdiaaGreatDoorUi
namespace Go.Proofs.YtfgnekbkcmpdiaaGreatDoor
open Go.RowKit
set_option linter.unusedVariables false
set_option linter.unusedSimpArgs false
set_option maxRecDepth 100000

theorem idx_at10 {c : UInt8} : ∀ {a : List UInt8} (r : List UInt8), (∀ d ∈ a, d ≠ c) → Lib.indexByte (a ++ c :: r) c = (a.length : Int)
  | [], r, _ => by simp [Lib.indexByte]
  | b :: a, r, h => by
    have ih := idx_at10 (c := c) (a := a) r (fun d hd => h d (List.mem_cons_of_mem _ hd))
    have hb : (b == c) = false := by simpa using h b List.mem_cons_self
    rw [List.cons_append]
    unfold Lib.indexByte
    rw [hb, ih, if_neg (by simp), if_neg (by simp), List.length_cons]
    simp
theorem cut_at {a r : List UInt8} (h : ∀ c ∈ a, c ≠ 10) : Lib.cut (a ++ 10 :: r) [10] = (a, r, true) := by
  unfold Lib.cut
  rw [Lib.index_one, idx_at10 r h, if_pos (by omega)]
  simp only [Int.toNat_natCast, List.take_left', List.length_singleton]
  refine Prod.ext ?_ (Prod.ext ?_ rfl)
  · simp
  · simp
theorem hd_pre (nm : List UInt8) : Lib.hasPrefix (hdO ++ nm) hdO = true ∧ Lib.trimPrefix (hdO ++ nm) hdO = nm := by
  have h : Lib.hasPrefix (hdO ++ nm) hdO = true := by unfold Lib.hasPrefix; rw [List.isPrefixOf_iff_prefix]; exact List.prefix_append _ _
  refine ⟨h, ?_⟩
  unfold Lib.trimPrefix; rw [if_pos h]; simp
set_option maxHeartbeats 2000000 in
theorem rdhead_any (nm : List UInt8) (w : World) (h : K.nameB nm = true) :
    Calls Tryz.prog 44 #[.string (bs (hdO ++ nm))] w fun e w' => e = .returned (.tuple #[.string (bs nm), .bool true]) ∧ w = w' := by
  obtain ⟨h1, h2, h3⟩ := name_bd h
  have HP := Lib.hid (show Lib.hasPrefix (bs (hdO ++ nm)).data.toList (⟨#[111, 114, 116, 104, 111, 103, 114, 97, 112, 104, 121, 32]⟩ : ByteArray).data.toList = true from (hd_pre nm).1)
  have HT := Lib.hid (show (⟨(Lib.trimPrefix (bs (hdO ++ nm)).data.toList (⟨#[111, 114, 116, 104, 111, 103, 114, 97, 112, 104, 121, 32]⟩ : ByteArray).data.toList).toArray⟩ : ByteArray) = bs nm by
    rw [show Lib.trimPrefix (bs (hdO ++ nm)).data.toList (⟨#[111, 114, 116, 104, 111, 103, 114, 97, 112, 104, 121, 32]⟩ : ByteArray).data.toList = nm from (hd_pre nm).2]; rfl)
  have HI := Lib.hid (show Lib.indexByte (bs nm).data.toList 32 = -1 from K.idx_none (fun hm => (h3 32 hm).1 rfl))
  obtain ⟨q1, q2⟩ := ful_l (t := nm) (by omega)
  clear h h1 h2 h3
  go_enter Tryz.func44, Tryz.ntmps44
  go_wp2_with fail
  refine (Tryz.strings_CutPrefix _ _ _).mono ?_
  rintro e w1 ⟨rfl, hw⟩
  subst hw
  rw [HP.out, HT.out]
  go_wp2_with fail
  refine (Tryz.strings_Contains_one _ _ _).mono ?_
  rintro e w1 ⟨rfl, hw⟩
  subst hw
  rw [HI.out]
  go_wp2_with fail
  go_ret2
  exact ⟨rfl, rfl⟩
theorem Hp.sgbox_all {W w : World} {l : List Itm} {i g : Nat} {v : Option Addr × Nat} {x : Sg} (h : Hp W l w) (hi : l[i]? = some (sgbox g v x)) :
    (w.cell? ⟨g, 0, none⟩ = some (.string (bs x.t)) ∧ w.cell? ⟨g, 1, none⟩ = some (.slice v.1 x.s.length v.2) ∧ w.cell? ⟨g, 2, none⟩ = some (.int .i64 x.c) ∧ w.cell? ⟨g, 3, none⟩ = some (.int .i64 x.w)) ∧ (w.frozen? ⟨g, 0, none⟩ = false ∧ w.frozen? ⟨g, 1, none⟩ = false ∧ w.frozen? ⟨g, 2, none⟩ = false ∧ w.frozen? ⟨g, 3, none⟩ = false) ∧ g < w.heap.size := by
  have a := h.box_at hi (j := 0) rfl
  have b := h.box_at hi (j := 1) rfl
  have c := h.box_at hi (j := 2) rfl
  have d := h.box_at hi (j := 3) rfl
  exact ⟨⟨a.1, b.1, c.1, d.1⟩, ⟨a.2.1, b.2.1, c.2.1, d.2.1⟩, a.2.2⟩
theorem Hp.sgbox_put {W w : World} {l : List Itm} {i g : Nat} {v : Option Addr × Nat} {x : Sg} (h : Hp W l w) (hi : l[i]? = some (sgbox g v x)) (A : Option Addr) (c : Nat) (y : Sg) :
    Hp W (l.set i (sgbox g (A, c) y)) ((((w.setCell ⟨g, 0, none⟩ (.string (bs y.t))).setCell ⟨g, 1, none⟩ (.slice A y.s.length c)).setCell ⟨g, 2, none⟩ (.int .i64 y.c)).setCell ⟨g, 3, none⟩ (.int .i64 y.w)) := by
  have hil := (List.getElem?_eq_some_iff.1 hi).1
  have h1 := Hp.box_set (T := 34) h hi 0 (.string (bs y.t))
  have h2 := Hp.box_set (T := 34) (i := i) h1 (by rw [Pt.set_at hil, if_pos rfl]) 1 (.slice A y.s.length c)
  have h3 := Hp.box_set (T := 34) (i := i) h2 (by rw [Pt.set_at (by rw [List.length_set]; exact hil), if_pos rfl]) 2 (.int .i64 y.c)
  have h4 := Hp.box_set (T := 34) (i := i) h3 (by rw [Pt.set_at (by rw [List.length_set, List.length_set]; exact hil), if_pos rfl]) 3 (.int .i64 y.w)
  simp only [List.set_set] at h4
  exact h4
/-- What the reading of a sign's line answers. -/
def SgPost (x : Sg) (w : World) (e : Ending) (w' : World) : Prop :=
  ∃ A c, e = .returned (.tuple #[.agg #[.string (bs x.t), .slice A x.s.length c, .int .i64 x.c, .int .i64 x.w], .bool true]) ∧ Hp w [snds A x.s.length c x.s] w'
def zSg : Sg := ⟨[], [], 0, 0⟩
theorem ww_nat {w : Int} (h : 0 ≤ w ∧ w ≤ 4) : ∃ k : Nat, w = (k : Int) ∧ k ≤ 4 := ⟨w.toNat, by omega, by omega⟩
set_option maxHeartbeats 8000000 in
theorem rdsign_1 (x : Sg) (ya : Snd) (hxs : x.s = [ya]) (hx : sgE x = 0) (w : World) (hm : MaxAt w) :
    Calls Tryz.prog 45 #[.string (bs (lnS x))] w (SgPost x w) := by
  obtain ⟨h1, h2, h3, h4, h5⟩ := sgE_zero hx
  have hP : splL isSp (bs (lnS x)).data.toList = [x.t, tx1 ya, dg2 x.c, wW x.w] := by rw [bs_list, lnS_split hx]; unfold ptS; rw [hxs]; rfl
  have HNC := Lib.hid (show Lib.countB (bs (lnS x)) ⟨#[32]⟩ + 1 = 4 by rw [split_count, hP]; rfl)
  have HCL := Lib.hid (show (Lib.splitB (⟨#[32]⟩ : ByteArray) 0 (Lib.countB (bs (lnS x)) ⟨#[32]⟩) (bs (lnS x))).map Value.string = strC [x.t, tx1 ya, dg2 x.c, wW x.w] by rw [split_cells, hP])
  have hz : (bs (lnS x)).size ≤ 41 := by rw [bs_size]; exact (lnS_len hx).1
  have HZ := Lib.hid hz
  obtain ⟨q1, q2⟩ := ful_l (t := x.t) (by have := (txE_zero h1).1; omega)
  have HPS := Lib.hid (show prsV (bs (txL x.s)).data.toList = (x.s, 0) by rw [bs_list]; exact prs_sounds hx)
  have hlt := txL_len h3
  have hl2 : x.s.length = 1 := by rw [hxs]; rfl
  have HJ := Lib.hid (show Lib.join ([bs (tx1 ya)].map (·.data.toList)) (⟨#[32]⟩ : ByteArray).data.toList = txL x.s by rw [hxs]; simp [Lib.join, List.intercalate, txL, jn, bs_list])
  have HJL := Lib.hid (show (txL x.s).length ≤ 140737488355328 by omega)
  have HPL := Lib.hid (show (bs (txL x.s)).size ≤ 140737488355328 by rw [bs_size]; omega)
  have HNV := Lib.hid (dg_any h4).1
  have HNL := Lib.hid (show (bs (dg2 x.c)).size ≤ maxLen by rw [bs_size]; have := (dg_any h4).2.2.1; unfold maxLen; omega)
  obtain ⟨xw, hxw⟩ : ∃ z, z = x.w := ⟨_, rfl⟩
  obtain ⟨kw, hkw, hk4⟩ := ww_nat h5
  have HKW := Lib.hid hkw
  have HXS := Lib.hid hl2
  have HM := Lib.hid hm
  obtain ⟨g0, hg0⟩ : ∃ z, z = w.heap.size := ⟨_, rfl⟩
  obtain ⟨W0, hW0⟩ : ∃ z, z = w.alloc (.cells #[.string ⟨#[]⟩, .slice none 0 0, .int .i64 0, .int .i64 0] 34) := ⟨_, rfl⟩
  have V0 := Lib.hid (show Hp w [sgbox g0 (none, 0) zSg] W0 by rw [hW0, hg0]; exact (Hp.start w).sgbox_new none 0 zSg)
  obtain ⟨mx, hmx⟩ := hm.below V0.out.below
  obtain ⟨g1, hg1⟩ : ∃ z, z = W0.heap.size := ⟨_, rfl⟩
  have HG1' := Lib.hid (show g1 = g0 + 1 by rw [hg1, hW0, hg0]; simp)
  obtain ⟨W1, hW1⟩ : ∃ z, z = W0.alloc (.cells (strC [x.t, tx1 ya, dg2 x.c, wW x.w]).toArray 9) := ⟨_, rfl⟩
  have V1 := Lib.hid (show Hp w [strs (some ⟨g1, 0, none⟩) 4 4 [x.t, tx1 ya, dg2 x.c, wW x.w], sgbox g0 (none, 0) zSg] W1 by rw [hW1, hg1]; exact V0.out.lit 9 1 4 (strC [x.t, tx1 ya, dg2 x.c, wW x.w]) rfl (by decide))
  have HW0 := Lib.hid hW0
  have HG0 := Lib.hid hg0
  have HW1 := Lib.hid hW1
  have HG1 := Lib.hid hg1
  clear hW0 hg0 hW1 hg1 hm h1 h2 h3 h4 h5 hx hP hlt hl2 hxw xw hkw hz hxs
  go_enter Tryz.func45, Tryz.ntmps45
  go_upto_region 1 with fail
  rw [← HG0.out, ← HW0.out]
  go_wp2_with fail
  refine (Tryz.strings_Split (bs (lnS x)) ⟨#[32]⟩ mx _ (by have := HZ.out; omega) hmx (by decide)).mono ?_
  rintro e w1 ⟨rfl, hw1⟩
  rw [HNC.out]
  rw [HCL.out, ← HW1.out] at hw1
  subst hw1
  rw [← HG1.out]
  have c0 := (V1.out.cell (i := 0) rfl (g := g1) (cap := 4) rfl (j := 0) rfl).1
  have c1 := (V1.out.cell (i := 0) rfl (g := g1) (cap := 4) rfl (j := 1) rfl).1
  have c2 := (V1.out.cell (i := 0) rfl (g := g1) (cap := 4) rfl (j := 2) rfl).1
  have c3 := (V1.out.cell (i := 0) rfl (g := g1) (cap := 4) rfl (j := 3) rfl).1
  have hg1l := (V1.out.lt (i := 0) (k := g1) rfl rfl).2
  clear hmx
  go_wp2_with fail
  refine (Tryz.strings_Join g1 1 3 [bs (tx1 ya)] ⟨#[32]⟩ _ (fun j u hu => ?_) hg1l (by simp) (by simp) (by rw [HJ.out]; exact HJL.out)).mono ?_
  · match j, hu with
    | 0, hu => injection hu with hu; subst hu; exact c1
    | j + 1, hu => simp at hu
  rintro e w2 ⟨rfl, hb2⟩
  rw [HJ.out, show (⟨(txL x.s).toArray⟩ : ByteArray) = bs (txL x.s) from rfl]
  have V2 := Lib.hid (V1.out.go hb2)
  clear hb2 c0 c1 c2 c3
  go_wp2_with fail
  have HPA := Lib.hid (fun w1 hm1 => parse_any (bs (txL x.s)) w1 x.s 0 HPS.out HPL.out hm1)
  refine (HPA.out _ (HM.out.below V2.out.below)).mono ?_
  rintro e w3 ⟨A, n3, cP, rfl, hn3, hp3⟩
  have V3 := Lib.hid (V2.out.join hp3)
  obtain rfl : n3 = 1 := by rw [← hn3]; exact HXS.out
  clear hp3 hn3
  have c0 := (V3.out.cell (i := 1) rfl (g := g1) (cap := 4) rfl (j := 0) rfl).1
  have c1 := (V3.out.cell (i := 1) rfl (g := g1) (cap := 4) rfl (j := 1) rfl).1
  have c2 := (V3.out.cell (i := 1) rfl (g := g1) (cap := 4) rfl (j := 2) rfl).1
  have c3 := (V3.out.cell (i := 1) rfl (g := g1) (cap := 4) rfl (j := 3) rfl).1
  have hg1l3 := (V3.out.lt (i := 1) (k := g1) rfl rfl).2
  go_wp2_with fail
  refine (K.number_any (bs (dg2 x.c)) _ HNL.out).mono ?_
  rintro e w4 ⟨rfl, hb4⟩
  rw [bs_list, HNV.out]
  have V4 := Lib.hid (V3.out.go hb4)
  clear hb4 c0 c1 c2 c3
  have c0 := (V4.out.cell (i := 1) rfl (g := g1) (cap := 4) rfl (j := 0) rfl).1
  have c1 := (V4.out.cell (i := 1) rfl (g := g1) (cap := 4) rfl (j := 1) rfl).1
  have c2 := (V4.out.cell (i := 1) rfl (g := g1) (cap := 4) rfl (j := 2) rfl).1
  have c3 := (V4.out.cell (i := 1) rfl (g := g1) (cap := 4) rfl (j := 3) rfl).1
  rw [HKW.out] at c3
  go_wp2_with fail
  refine (readWhere_any kw _ hk4).mono ?_
  rintro e w5 ⟨rfl, hw⟩
  subst hw
  obtain ⟨⟨k0, k1, k2, k3⟩, ⟨f0, f1, f2, f3⟩, k4⟩ := V4.out.sgbox_all (i := 2) rfl
  dsimp only [zSg, List.length_nil] at k0 k1 k2 k3
  have V5 := Lib.hid (V4.out.sgbox_put (i := 2) rfl A cP x)
  go_wp2_with fail
  refine bodyPost_ret (v := .tuple #[.agg #[.string (bs x.t), .slice A 1 cP, .int .i64 x.c, .int .i64 (kw : Int)], .bool true]) (by simp [results, Tryz.results45, go_sem, k0, k1, k2, k3]) rfl ⟨A, cP, ?_, ?_⟩
  · rw [HKW.out, HXS.out]
  · have := V5.out
    rw [HKW.out, HXS.out] at this
    rw [HXS.out]
    exact this.pick [0] (by decide) (by simp [HXS.out])
set_option maxHeartbeats 8000000 in
theorem rdsign_2 (x : Sg) (ya yb : Snd) (hxs : x.s = [ya, yb]) (hx : sgE x = 0) (w : World) (hm : MaxAt w) :
    Calls Tryz.prog 45 #[.string (bs (lnS x))] w (SgPost x w) := by
  obtain ⟨h1, h2, h3, h4, h5⟩ := sgE_zero hx
  have hP : splL isSp (bs (lnS x)).data.toList = [x.t, tx1 ya, tx1 yb, dg2 x.c, wW x.w] := by rw [bs_list, lnS_split hx]; unfold ptS; rw [hxs]; rfl
  have HNC := Lib.hid (show Lib.countB (bs (lnS x)) ⟨#[32]⟩ + 1 = 5 by rw [split_count, hP]; rfl)
  have HCL := Lib.hid (show (Lib.splitB (⟨#[32]⟩ : ByteArray) 0 (Lib.countB (bs (lnS x)) ⟨#[32]⟩) (bs (lnS x))).map Value.string = strC [x.t, tx1 ya, tx1 yb, dg2 x.c, wW x.w] by rw [split_cells, hP])
  have hz : (bs (lnS x)).size ≤ 41 := by rw [bs_size]; exact (lnS_len hx).1
  have HZ := Lib.hid hz
  obtain ⟨q1, q2⟩ := ful_l (t := x.t) (by have := (txE_zero h1).1; omega)
  have HPS := Lib.hid (show prsV (bs (txL x.s)).data.toList = (x.s, 0) by rw [bs_list]; exact prs_sounds hx)
  have hlt := txL_len h3
  have hl2 : x.s.length = 2 := by rw [hxs]; rfl
  have HJ := Lib.hid (show Lib.join ([bs (tx1 ya), bs (tx1 yb)].map (·.data.toList)) (⟨#[32]⟩ : ByteArray).data.toList = txL x.s by rw [hxs]; simp [Lib.join, List.intercalate, txL, jn, bs_list])
  have HJL := Lib.hid (show (txL x.s).length ≤ 140737488355328 by omega)
  have HPL := Lib.hid (show (bs (txL x.s)).size ≤ 140737488355328 by rw [bs_size]; omega)
  have HNV := Lib.hid (dg_any h4).1
  have HNL := Lib.hid (show (bs (dg2 x.c)).size ≤ maxLen by rw [bs_size]; have := (dg_any h4).2.2.1; unfold maxLen; omega)
  obtain ⟨xw, hxw⟩ : ∃ z, z = x.w := ⟨_, rfl⟩
  obtain ⟨kw, hkw, hk4⟩ := ww_nat h5
  have HKW := Lib.hid hkw
  have HXS := Lib.hid hl2
  have HM := Lib.hid hm
  obtain ⟨g0, hg0⟩ : ∃ z, z = w.heap.size := ⟨_, rfl⟩
  obtain ⟨W0, hW0⟩ : ∃ z, z = w.alloc (.cells #[.string ⟨#[]⟩, .slice none 0 0, .int .i64 0, .int .i64 0] 34) := ⟨_, rfl⟩
  have V0 := Lib.hid (show Hp w [sgbox g0 (none, 0) zSg] W0 by rw [hW0, hg0]; exact (Hp.start w).sgbox_new none 0 zSg)
  obtain ⟨mx, hmx⟩ := hm.below V0.out.below
  obtain ⟨g1, hg1⟩ : ∃ z, z = W0.heap.size := ⟨_, rfl⟩
  have HG1' := Lib.hid (show g1 = g0 + 1 by rw [hg1, hW0, hg0]; simp)
  obtain ⟨W1, hW1⟩ : ∃ z, z = W0.alloc (.cells (strC [x.t, tx1 ya, tx1 yb, dg2 x.c, wW x.w]).toArray 9) := ⟨_, rfl⟩
  have V1 := Lib.hid (show Hp w [strs (some ⟨g1, 0, none⟩) 5 5 [x.t, tx1 ya, tx1 yb, dg2 x.c, wW x.w], sgbox g0 (none, 0) zSg] W1 by rw [hW1, hg1]; exact V0.out.lit 9 1 5 (strC [x.t, tx1 ya, tx1 yb, dg2 x.c, wW x.w]) rfl (by decide))
  have HW0 := Lib.hid hW0
  have HG0 := Lib.hid hg0
  have HW1 := Lib.hid hW1
  have HG1 := Lib.hid hg1
  clear hW0 hg0 hW1 hg1 hm h1 h2 h3 h4 h5 hx hP hlt hl2 hxw xw hkw hz hxs
  go_enter Tryz.func45, Tryz.ntmps45
  go_upto_region 1 with fail
  rw [← HG0.out, ← HW0.out]
  go_wp2_with fail
  refine (Tryz.strings_Split (bs (lnS x)) ⟨#[32]⟩ mx _ (by have := HZ.out; omega) hmx (by decide)).mono ?_
  rintro e w1 ⟨rfl, hw1⟩
  rw [HNC.out]
  rw [HCL.out, ← HW1.out] at hw1
  subst hw1
  rw [← HG1.out]
  have c0 := (V1.out.cell (i := 0) rfl (g := g1) (cap := 5) rfl (j := 0) rfl).1
  have c1 := (V1.out.cell (i := 0) rfl (g := g1) (cap := 5) rfl (j := 1) rfl).1
  have c2 := (V1.out.cell (i := 0) rfl (g := g1) (cap := 5) rfl (j := 2) rfl).1
  have c3 := (V1.out.cell (i := 0) rfl (g := g1) (cap := 5) rfl (j := 3) rfl).1
  have c4 := (V1.out.cell (i := 0) rfl (g := g1) (cap := 5) rfl (j := 4) rfl).1
  have hg1l := (V1.out.lt (i := 0) (k := g1) rfl rfl).2
  clear hmx
  go_wp2_with fail
  refine (Tryz.strings_Join g1 1 4 [bs (tx1 ya), bs (tx1 yb)] ⟨#[32]⟩ _ (fun j u hu => ?_) hg1l (by simp) (by simp) (by rw [HJ.out]; exact HJL.out)).mono ?_
  · match j, hu with
    | 0, hu => injection hu with hu; subst hu; exact c1
    | 1, hu => injection hu with hu; subst hu; exact c2
    | j + 2, hu => simp at hu
  rintro e w2 ⟨rfl, hb2⟩
  rw [HJ.out, show (⟨(txL x.s).toArray⟩ : ByteArray) = bs (txL x.s) from rfl]
  have V2 := Lib.hid (V1.out.go hb2)
  clear hb2 c0 c1 c2 c3 c4
  go_wp2_with fail
  have HPA := Lib.hid (fun w1 hm1 => parse_any (bs (txL x.s)) w1 x.s 0 HPS.out HPL.out hm1)
  refine (HPA.out _ (HM.out.below V2.out.below)).mono ?_
  rintro e w3 ⟨A, n3, cP, rfl, hn3, hp3⟩
  have V3 := Lib.hid (V2.out.join hp3)
  obtain rfl : n3 = 2 := by rw [← hn3]; exact HXS.out
  clear hp3 hn3
  have c0 := (V3.out.cell (i := 1) rfl (g := g1) (cap := 5) rfl (j := 0) rfl).1
  have c1 := (V3.out.cell (i := 1) rfl (g := g1) (cap := 5) rfl (j := 1) rfl).1
  have c2 := (V3.out.cell (i := 1) rfl (g := g1) (cap := 5) rfl (j := 2) rfl).1
  have c3 := (V3.out.cell (i := 1) rfl (g := g1) (cap := 5) rfl (j := 3) rfl).1
  have c4 := (V3.out.cell (i := 1) rfl (g := g1) (cap := 5) rfl (j := 4) rfl).1
  have hg1l3 := (V3.out.lt (i := 1) (k := g1) rfl rfl).2
  go_wp2_with fail
  refine (K.number_any (bs (dg2 x.c)) _ HNL.out).mono ?_
  rintro e w4 ⟨rfl, hb4⟩
  rw [bs_list, HNV.out]
  have V4 := Lib.hid (V3.out.go hb4)
  clear hb4 c0 c1 c2 c3 c4
  have c0 := (V4.out.cell (i := 1) rfl (g := g1) (cap := 5) rfl (j := 0) rfl).1
  have c1 := (V4.out.cell (i := 1) rfl (g := g1) (cap := 5) rfl (j := 1) rfl).1
  have c2 := (V4.out.cell (i := 1) rfl (g := g1) (cap := 5) rfl (j := 2) rfl).1
  have c3 := (V4.out.cell (i := 1) rfl (g := g1) (cap := 5) rfl (j := 3) rfl).1
  have c4 := (V4.out.cell (i := 1) rfl (g := g1) (cap := 5) rfl (j := 4) rfl).1
  rw [HKW.out] at c4
  go_wp2_with fail
  refine (readWhere_any kw _ hk4).mono ?_
  rintro e w5 ⟨rfl, hw⟩
  subst hw
  obtain ⟨⟨k0, k1, k2, k3⟩, ⟨f0, f1, f2, f3⟩, k4⟩ := V4.out.sgbox_all (i := 2) rfl
  dsimp only [zSg, List.length_nil] at k0 k1 k2 k3
  have V5 := Lib.hid (V4.out.sgbox_put (i := 2) rfl A cP x)
  go_wp2_with fail
  refine bodyPost_ret (v := .tuple #[.agg #[.string (bs x.t), .slice A 2 cP, .int .i64 x.c, .int .i64 (kw : Int)], .bool true]) (by simp [results, Tryz.results45, go_sem, k0, k1, k2, k3]) rfl ⟨A, cP, ?_, ?_⟩
  · rw [HKW.out, HXS.out]
  · have := V5.out
    rw [HKW.out, HXS.out] at this
    rw [HXS.out]
    exact this.pick [0] (by decide) (by simp [HXS.out])
theorem rdsign_any (x : Sg) (hx : sgE x = 0) (w : World) (hm : MaxAt w) : Calls Tryz.prog 45 #[.string (bs (lnS x))] w (SgPost x w) := by
  obtain ⟨_, h2, _⟩ := sgE_zero hx
  match hs : x.s with
  | [] => rw [hs] at h2; simp at h2
  | [y] => exact rdsign_1 x y hs hx w hm
  | [y, z] => exact rdsign_2 x y z hs hx w hm
  | y :: z :: u :: r => rw [hs] at h2; simp at h2
end Go.Proofs.YtfgnekbkcmpdiaaGreatDoor
