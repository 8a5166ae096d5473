/- Several texts in one: Yf, Yj. -/
import Derived.Test.YtjamfcihjendiaaGreatRabo
import Derived.Test.YtjamfcihjendiaaGreatRaar
import Derived.Test.YtjamfcihjendiaaGreatRaai
import Derived.Test.YtjamfcihjendiaaGreatRaat
namespace Go.Proofs.YtjamfcihjendiaaGreat
open Go.RowKit
set_option linter.unusedVariables false
set_option linter.unusedSimpArgs false
set_option maxRecDepth 100000

theorem last_one : ∀ {l : List UInt8} {c : UInt8} (i : Nat) (hi : i < (bs l).size), l.getLast? = some c → i + 1 = l.length → (bs l)[i] = c := by
  intro l c i hi h hl
  have h1 : l[i]? = some c := by rw [← h, List.getLast?_eq_getElem?, ← hl, Nat.add_sub_cancel]
  have h2 : (bs l)[i] = l[i]'(by omega) := rfl
  rw [h2]
  obtain ⟨_, e⟩ := List.getElem?_eq_some_iff.1 h1
  exact e
theorem txO_last (nm : List UInt8) (L : List Sg) : (txO nm L).getLast? = some 10 := by
  have h : ∀ L : List Sg, ∀ a : List UInt8, (a ++ 10 :: lnsO L).getLast? = some 10 := by
    intro L
    induction L with
    | nil => intro a; simp [lnsO]
    | cons x r ih =>
      intro a
      rw [lnsO_cons, show a ++ 10 :: (lnS x ++ 10 :: lnsO r) = (a ++ 10 :: lnS x) ++ 10 :: lnsO r by simp]
      exact ih _
  exact h L (hdO ++ nm)
theorem last10 {s : ByteArray} {nm : List UInt8} {L : List Sg} (hs : s = bs (txO nm L)) : 1 ≤ s.size ∧ ∀ i (hi : i < s.size), i + 1 = s.size → s[i] = 10 := by
  have h2 := txO_last nm L
  have h3 : 1 ≤ (txO nm L).length := by
    rcases Nat.eq_zero_or_pos (txO nm L).length with h | h
    · rw [List.eq_nil_of_length_eq_zero h] at h2; simp at h2
    · exact h
  subst hs
  refine ⟨by rw [bs_size]; exact h3, fun i hi h => last_one i hi h2 (by rw [bs_size] at h; exact h)⟩
set_option maxHeartbeats 3000000 in
theorem rparseO_any (s : ByteArray) (nm : List UInt8) (L : List Sg) (w : World) (hs : s = bs (txO nm L)) (hv : (vO nm L).2 = 0) (h2k : s.size ≤ 2000) :
    Calls Tryz.prog 30 #[.string s] w (OPost nm L [.int .i64 0, .int .i64 0] w) := by
  obtain ⟨hn, hl0, hl1, hall⟩ := vO_zero hv
  have HLN := Lib.hid (show K.linesV s.data.toList = (hdO ++ nm) :: L.map lnS by rw [hs, bs_list]; exact lines_txO hv)
  have HN := Lib.hid hn
  have HALL := Lib.hid hall
  have HB := Lib.hid (SgBd.ok hv)
  have HVO := Lib.hid (vO_ok hv)
  have hnb := nm_bnd hv
  have HLS := Lib.hid (last10 hs)
  obtain ⟨n, hnn⟩ : ∃ n, n = L.length := ⟨_, rfl⟩
  have HL := Lib.hid hnn.symm
  have hn120 : n ≤ 120 := by omega
  have hn1 : 1 ≤ n := by omega
  have hpos : 1 ≤ s.size := HLS.out.1
  obtain ⟨g0, hg0⟩ : ∃ z, z = w.heap.size := ⟨_, rfl⟩
  obtain ⟨W0, hW0⟩ : ∃ z, z = w.alloc (.cells #[.string ⟨#[]⟩, .slice none 0 0] 24) := ⟨_, rfl⟩
  have V0 := Lib.hid (show Hp w [obox g0 [] none 0 0] W0 by rw [hW0, hg0]; exact (Hp.start w).obox_new [] none 0 0)
  have HW0 := Lib.hid hW0
  have HG0 := Lib.hid hg0
  clear hW0 hg0 hv hn hall hl0 hl1 hnn hs
  go_enter Tryz.func30, Tryz.ntmps30
  go_upto_region 1 with fail
  rw [← HG0.out, ← HW0.out]
  go_wp2_with fail
  refine (K.rlines_any s _ h2k).mono ?_
  rintro e w1 ⟨C, m, d, rfl, hm, hmd, hS, hb1⟩
  rw [HLN.out] at hm hS
  have hmn : m = n + 1 := by rw [hm, List.length_cons, List.length_map, HL.out]
  have hm1 : n + 1 ≤ m := by omega
  have hm2 : m ≤ n + 1 := by omega
  obtain ⟨gl, ol, rfl, hgl, hc⟩ := hS (by simp)
  have HC := Lib.hid hc
  have V1 := Lib.hid (V0.out.go hb1)
  have em0 : ((m : Int) == 0) = false := by rw [beq_eq_false_iff_ne]; omega
  clear hS hm hb1 hc hmn
  obtain ⟨g1, hg1⟩ : ∃ z, z = w1.heap.size := ⟨_, rfl⟩
  obtain ⟨W2, hW2⟩ : ∃ z, z = w1.alloc (.cells #[.string ⟨#[]⟩, .slice none 0 0] 24) := ⟨_, rfl⟩
  have V2 := Lib.hid (show Hp w1 [sgv none 0 0 [] [], obox g1 [] none 0 0] W2 by
    rw [hW2, hg1]; exact ((Hp.start w1).obox_new [] none 0 0).nil_row _ rfl rfl rfl)
  have HW2 := Lib.hid hW2
  have HG1 := Lib.hid hg1
  clear hW2 hg1
  go_upto_region 7 with fail
  rw [← HG1.out, ← HW2.out]
  go_wp2_with fail
  clear em0
  go_loopw [7] (fun i wr => ∃ k : Nat, k ≤ m ∧ i = .int .i64 (k : Int) ∧ ((k = 0 ∧ Hp w1 [sgv none 0 0 [] [], obox g1 [] none 0 0] wr) ∨ ∃ (j : Nat) (A : Option Addr) (c : Nat) (vs : List (Option Addr × Nat)) (pool : List Itm), k ≤ j + 1 ∧ j + 1 ≤ k ∧ vs.length = j ∧ Pool pool vs (L.take j) ∧ Hp w1 (sgv A j c vs (L.take j) :: obox g1 nm A j c :: pool) wr)) (fun i _ => m - (intOf i).toNat)
  case atStart => exact ⟨0, Nat.zero_le _, rfl, Or.inl ⟨rfl, V2.out⟩⟩
  case round =>
    obtain ⟨k, hk, rfl, hcase⟩ := hrel
    obtain ⟨wi, rfl⟩ : ∃ wi : World, wi = wr := ⟨_, rfl⟩
    clear V2
    rcases hcase with ⟨rfl, hV⟩ | ⟨j, A, c, vs, pool, hj1, hj2, hvs, hpool, hV⟩
    · have V3 := Lib.hid hV
      have c0 : wi.cell? ⟨gl, ol, none⟩ = some (.string (bs (hdO ++ nm))) := (hV.below.cell (p := ⟨gl, ol + 0, none⟩) hgl).trans (HC.out 0 _ rfl)
      have hgl2 : gl < wi.heap.size := Nat.lt_of_lt_of_le hgl hV.below.size
      have e1 : ((0 : Int) == (m : Int) - 1) = false := by rw [beq_eq_false_iff_ne]; omega
      have HNE := Lib.hid (head_ne HN.out)
      have HP := Lib.hid (show splL isSp (bs (hdO ++ nm)).data.toList = [orthW, nm] by rw [bs_list, head_split HN.out])
      have hz : (bs (hdO ++ nm)).size ≤ 20000 := by rw [bs_size, List.length_append, hdO_len]; omega
      clear hV
      go_wp2_with fail
      refine (words_any _ _ hz HNE.out).mono ?_
      rintro e w2 ⟨D, p, dd, rfl, hp, hpp⟩
      rw [HP.out] at hp hpp
      obtain rfl : p = 2 := hp.symm
      have V4 := Lib.hid (show Hp w1 [strs D 2 dd [orthW, nm], sgv none 0 0 [] [], obox g1 [] none 0 0] w2 from V3.out.join hpp)
      clear hp hpp c0 hgl2
      have c0 : w2.cell? ⟨gl, ol, none⟩ = some (.string (bs (hdO ++ nm))) := (V4.out.below.cell (p := ⟨gl, ol + 0, none⟩) hgl).trans (HC.out 0 _ rfl)
      have hgl2 : gl < w2.heap.size := Nat.lt_of_lt_of_le hgl V4.out.below.size
      go_wp2_with fail
      refine (rline_head nm HN.out _).mono ?_
      rintro e w3 ⟨rfl, hb3⟩
      have V5 := Lib.hid (V4.out.go hb3)
      clear hb3 c0 hgl2
      obtain ⟨gs, hgs⟩ : ∃ z, z = w3.heap.size := ⟨_, rfl⟩
      obtain ⟨W4, hW4⟩ : ∃ z, z = w3.alloc (.cells #[.string ⟨#[]⟩, .slice none 0 0, .int .i64 0, .int .i64 0] 64) := ⟨_, rfl⟩
      have V6 := Lib.hid (show Hp w1 [sgbox gs (none, 0) zSg, strs D 2 dd [orthW, nm], sgv none 0 0 [] [], obox g1 [] none 0 0] W4 by rw [hW4, hgs]; exact V5.out.sgbox_new none 0 zSg)
      have HW4 := Lib.hid hW4
      have HGS := Lib.hid hgs
      clear hW4 hgs
      have HCC := Lib.hid (V6.out.cells (i := 1) (A := D) (c := dd) rfl rfl)
      obtain ⟨b, off, rfl, hbl, d0⟩ := HCC.out.str (j := 0) rfl
      have d0 : W4.cell? ⟨b, off, none⟩ = some (.string (bs orthW)) := d0
      have d1 := HCC.out.strs (j := 1) rfl
      obtain ⟨z0, z1, z2⟩ := V6.out.obox_at (i := 3) rfl
      have zf := V6.out.box_at (i := 3) (T := 24) (g := g1) (cs := oC [] none 0 0) rfl (j := 0) rfl
      obtain ⟨zf1, zf2, zf3⟩ := zf
      have V7 := Lib.hid (show Hp w1 [sgbox gs (none, 0) zSg, strs (some ⟨b, off, none⟩) 2 dd [orthW, nm], sgv none 0 0 [] [], obox g1 nm none 0 0] (W4.setCell ⟨g1, 0, none⟩ (.string (bs nm))) from
        Hp.box_set (T := 24) (g := g1) (cs := oC [] none 0 0) V6.out (i := 3) rfl 0 (.string (bs nm)))
      have e2 : ((bs orthW).toList == [111, 114, 116, 104, 111, 103, 114, 97, 112, 104, 121]) = true := by rw [toL]; rfl
      go_upto_region 13 with fail
      rw [← HGS.out, ← HW4.out]
      go_wp2_with fail
      go_roundw
      case rel => exact ⟨1, by omega, by go_num, Or.inr ⟨0, none, 0, [], [sgbox gs (none, 0) zSg, strs (some ⟨b, off, none⟩) 2 dd [orthW, nm]], by omega, by omega, rfl, fun j v x h _ => by simp at h, V7.out.pick [2, 3, 0, 1] (by decide) rfl⟩⟩
      case measure => simp [intOf]; omega
    · have V3 := Lib.hid hV
      have HVS := Lib.hid hvs
      have HPO := Lib.hid hpool
      clear hV hvs hpool
      by_cases hlt : j < n
      · obtain ⟨x, hx⟩ := get_at (L := L) (k := j) (by have := HL.out; omega)
        have HX := Lib.hid hx
        have HX0 := Lib.hid (HALL.out x (List.mem_of_getElem? hx))
        have HKJ := Lib.hid (show ((hdO ++ nm) :: L.map lnS)[k]? = some (lnS x) by
          obtain rfl : k = j + 1 := by omega
          rw [List.getElem?_cons_succ, List.getElem?_map, HX.out]; rfl)
        have c0 : wi.cell? ⟨gl, ol + k, none⟩ = some (.string (bs (lnS x))) := (V3.out.below.cell (p := ⟨gl, ol + k, none⟩) hgl).trans (HC.out k _ HKJ.out)
        have hgl2 : gl < wi.heap.size := Nat.lt_of_lt_of_le hgl V3.out.below.size
        have HNE := Lib.hid (show ∀ u ∈ splL isSp (bs (lnS x)).data.toList, u ≠ [] by rw [bs_list, lnS_split HX0.out]; exact ptS_ne HX0.out)
        have HP := Lib.hid (show splL isSp (bs (lnS x)).data.toList = ptS x by rw [bs_list, lnS_split HX0.out])
        have hz : (bs (lnS x)).size ≤ 20000 := by rw [bs_size]; have := (lnS_len HX0.out).1; omega
        have e0 : ((k : Int) == 0) = false := by rw [beq_eq_false_iff_ne]; omega
        clear hx
        go_upto_region 10 with fail
        go_cut [8] (fun r wx => r = .bool false ∧ wx = wi)
        case first =>
          by_cases hl : k + 1 = m
          · have e1 : ((k : Int) == (m : Int) - 1) = true := by rw [beq_iff_eq]; omega
            have hb : s[s.size - 1]'(by omega) = 10 := HLS.out.2 (s.size - 1) (by omega) (by omega)
            have e2 : (((s[s.size - 1]'(by omega)).toNat : Int) != 10) = false := by rw [hb]; rfl
            clear hb
            go_wp2_with fail
            go_meet
            exact ⟨rfl, rfl⟩
          · have e1 : ((k : Int) == (m : Int) - 1) = false := by rw [beq_eq_false_iff_ne]; omega
            go_wp2_with fail
            go_meet
            exact ⟨rfl, rfl⟩
        case rest =>
          obtain ⟨rfl, rfl⟩ := hcut
          go_wp2_with fail
          refine (words_any _ _ hz HNE.out).mono ?_
          rintro e w2 ⟨D, p, dd, rfl, hp, hpp⟩
          rw [HP.out] at hp hpp
          have V4 := Lib.hid (show Hp w1 (strs D p dd (ptS x) :: sgv A j c vs (L.take j) :: obox g1 nm A j c :: pool) w2 from V3.out.join hpp)
          clear hp hpp c0 hgl2
          have c0 : w2.cell? ⟨gl, ol + k, none⟩ = some (.string (bs (lnS x))) := (V4.out.below.cell (p := ⟨gl, ol + k, none⟩) hgl).trans (HC.out k _ HKJ.out)
          have hgl2 : gl < w2.heap.size := Nat.lt_of_lt_of_le hgl V4.out.below.size
          go_wp2_with fail
          refine (rline_good x HX0.out _).mono ?_
          rintro e w3 ⟨As, cs, rfl, hps⟩
          have V5 := Lib.hid (V4.out.join hps)
          clear hps c0 hgl2
          obtain ⟨gs, hgs⟩ : ∃ z, z = w3.heap.size := ⟨_, rfl⟩
          obtain ⟨W4, hW4⟩ : ∃ z, z = w3.alloc (.cells #[.string (bs x.t), .slice As x.s.length cs, .int .i64 x.c, .int .i64 x.w] 64) := ⟨_, rfl⟩
          have V6 := Lib.hid (show Hp w1 (sgbox gs (As, cs) x :: snds As x.s.length cs x.s :: strs D p dd (ptS x) :: sgv A j c vs (L.take j) :: obox g1 nm A j c :: pool) W4 by rw [hW4, hgs]; exact V5.out.sgbox_new As cs x)
          have HW4 := Lib.hid hW4
          have HGS := Lib.hid hgs
          clear hW4 hgs
          go_upto_region 13 with fail
          rw [← HGS.out, ← HW4.out]
          obtain ⟨y0, y1, y2, y3, y4⟩ := V6.out.sgbox_at (i := 0) rfl
          dsimp only at y1
          obtain ⟨z0, z1, z2⟩ := V6.out.obox_at (i := 4) rfl
          obtain ⟨wy, hwy⟩ : ∃ z, z = W4.alloc (.cells #[.string (bs x.t), .slice As x.s.length cs, .int .i64 x.c, .int .i64 x.w] 64) := ⟨_, rfl⟩
          have V7 := Lib.hid (show Hp w1 (sgbox W4.heap.size (As, cs) x :: sgbox gs (As, cs) x :: snds As x.s.length cs x.s :: strs D p dd (ptS x) :: sgv A j c vs (L.take j) :: obox g1 nm A j c :: pool) wy by rw [hwy]; exact V6.out.sgbox_new As cs x)
          obtain ⟨g5, cap5, w5, hr5, hv5, _⟩ := run_app_sg V7.out (i := 4) rfl (by rw [HVS.out, List.length_take]; have := HL.out; omega) 22 (b := W4.heap.size) (As, cs) x (fun j u hu => (V7.out.box_at (i := 0) rfl hu).1) (by omega)
          rw [← take_snocA HX.out] at hv5
          have V8 := Lib.hid (show Hp w1 (sgbox W4.heap.size (As, cs) x :: sgbox gs (As, cs) x :: snds As x.s.length cs x.s :: strs D p dd (ptS x) :: sgv (some ⟨g5, 0, none⟩) (j + 1) cap5 (vs ++ [(As, cs)]) (L.take (j + 1)) :: obox g1 nm A j c :: pool) w5 from hv5)
          have zf := V8.out.box_at (i := 5) (T := 24) (g := g1) (cs := oC nm A j c) rfl (j := 1) rfl
          obtain ⟨zf1, zf2, zf3⟩ := zf
          have V9 := Lib.hid (show Hp w1 (sgbox W4.heap.size (As, cs) x :: sgbox gs (As, cs) x :: snds As x.s.length cs x.s :: strs D p dd (ptS x) :: sgv (some ⟨g5, 0, none⟩) (j + 1) cap5 (vs ++ [(As, cs)]) (L.take (j + 1)) :: obox g1 nm (some ⟨g5, 0, none⟩) (j + 1) cap5 :: pool) (w5.setCell ⟨g1, 1, none⟩ (.slice (some ⟨g5, 0, none⟩) (j + 1) cap5)) from
            Hp.box_set (T := 24) (g := g1) (cs := oC nm A j c) V8.out (i := 5) rfl 1 (.slice (some ⟨g5, 0, none⟩) (j + 1) cap5))
          have HPN := Lib.hid (Pool.more HPO.out (by rw [HVS.out, List.length_take]; have := HL.out; omega) As cs x)
          rw [← take_snocA HX.out] at HPN
          have HVN := Lib.hid (show (vs ++ [(As, cs)]).length = j + 1 by rw [List.length_append, HVS.out]; rfl)
          have HY := Lib.hid hwy
          have HR5 := Lib.hid hr5
          clear hwy hr5 hv5
          go_wp2_with (at_builtin; rw [← HY.out]; refine wpList_app_run rfl (.tmp 83) (.tmp 85) 22 rfl HR5.out rfl rfl ?_)
          go_roundw
          case rel => exact ⟨k + 1, by omega, by go_num, Or.inr ⟨j + 1, _, cap5, _, snds As x.s.length cs x.s :: pool, by omega, by omega, HVN.out, HPN.out, Hp.sink (l := [_, _]) V9.out.tail.tail.drop2⟩⟩
          case measure => simp [intOf]; omega
      · obtain rfl : j = n := by omega
        have hkm : k = m := by omega
        have ht : L.take j = L := List.take_of_length_le (by have := HL.out; omega)
        rw [ht] at V3 HPO
        obtain ⟨z0, z1, z2⟩ := V3.out.obox_at (i := 1) rfl
        have HSI := Lib.hid (show SgnIn wi A L from sg_in (i := 0) (d := 0) V3.out rfl (by rw [HVS.out, HL.out]) (fun q v x hv hx => by
          obtain ⟨r, hr⟩ := HPO.out q v x hv hx
          exact V3.out.cells (i := r + 2) (it := snds v.1 x.s.length v.2 x.s) hr rfl))
        have HR := Lib.hid (rfirst_any nm L A j c wi (by omega) HL.out (by omega) HB.out HSI.out)
        clear ht hkm
        go_wp2_with fail
        refine HR.out.mono ?_
        rintro e w3 ⟨rfl, hb3⟩
        rw [HVO.out]
        have V4 := Lib.hid (V3.out.go hb3)
        clear hb3 z0 z1 z2
        have VJ := Lib.hid (V1.out.join V4.out)
        obtain ⟨z0, z1, z2⟩ := V4.out.obox_at (i := 1) rfl
        have hlast : ((sgv A j c vs L :: obox g1 nm A j c :: pool) ++ [obox g0 [] none 0 0])[pool.length + 2]? = some (obox g0 [] none 0 0) := by
          show (pool ++ [obox g0 [] none 0 0])[pool.length]? = _
          exact get_last
        obtain ⟨u01, u02, u03⟩ := VJ.out.box_at (T := 24) (g := g0) (cs := oC [] none 0 0) hlast (j := 0) rfl
        obtain ⟨u11, u12, u13⟩ := VJ.out.box_at (T := 24) (g := g0) (cs := oC [] none 0 0) hlast (j := 1) rfl
        have V5 := Lib.hid (show Hp w (sgv A j c vs L :: obox g1 nm A j c :: pool) ((w3.setCell ⟨g0, 0, none⟩ (.string (bs nm))).setCell ⟨g0, 1, none⟩ (.slice A j c)) by
          have h1 := Hp.box_set (T := 24) (g := g0) (cs := oC [] none 0 0) VJ.out hlast 0 (.string (bs nm))
          have h2 := Hp.box_set (T := 24) (g := g0) (i := pool.length + 2) h1 (by rw [Pt.set_at (by simp), if_pos rfl]) 1 (.slice A j c)
          refine h2.sub (fun i => i) (fun i j e => e) (fun i it hi => ?_)
          have hil := (List.getElem?_eq_some_iff.1 hi).1
          rw [List.length_cons, List.length_cons] at hil
          rw [Pt.set_at (by simp), if_neg (by omega), Pt.set_at (by simp), if_neg (by omega)]
          rw [List.getElem?_append_left (by rw [List.length_cons, List.length_cons]; omega)]; exact hi)
        clear hlast
        go_wp2_with fail
        refine bodyPost_ret (v := .tuple #[.agg #[.string (bs nm), .slice A j c], .int .i64 0, .int .i64 0]) (by simp [results, Tryz.results30, go_sem, u01, u11]) rfl ⟨A, j, c, vs, obox g1 nm A j c :: pool, rfl, HL.out, by rw [HVS.out, HL.out], HPO.out.wider _, V5.out⟩
end Go.Proofs.YtjamfcihjendiaaGreat

namespace Go.Proofs.YtjamfcihjendiaaGreat
open Go.RowKit
set_option linter.unusedVariables false
set_option linter.unusedSimpArgs false
set_option maxRecDepth 100000

set_option maxHeartbeats 8000000 in
theorem rlatin_any (w : World) : Calls Tryz.prog 14 #[] w (OnlyO latN latL w) := by
  obtain ⟨g0, hg0⟩ : ∃ z, z = w.heap.size := ⟨_, rfl⟩
  obtain ⟨W0, hW0⟩ : ∃ z, z = w.alloc (.cells #[.string ⟨#[]⟩, .slice none 0 0] 24) := ⟨_, rfl⟩
  have V0 := Lib.hid (show Hp w [obox g0 [] none 0 0] W0 by rw [hW0, hg0]; exact (Hp.start w).obox_new [] none 0 0)
  have HW0 := Lib.hid hW0
  have HG0 := Lib.hid hg0
  clear hW0 hg0
  go_enter Tryz.func14, Tryz.ntmps14
  go_upto_region 1 with fail
  rw [← HG0.out, ← HW0.out]
  go_wp2_with fail
  refine (rparseO_any _ latN latL _ (by kernel_rfl) lat_ok (of_decide_eq_true (by kernel_rfl))).mono ?_
  rintro e w1 ⟨A, n, c, vs, pool, rfl, hn, hvs, hpool, hp1⟩
  have V1 := Lib.hid (V0.out.join hp1)
  have HN := Lib.hid hn
  have HVS := Lib.hid hvs
  have HPO := Lib.hid hpool
  clear hp1 hn hvs hpool
  obtain ⟨g1, hg1⟩ : ∃ z, z = w1.heap.size := ⟨_, rfl⟩
  obtain ⟨W2, hW2⟩ : ∃ z, z = w1.alloc (.cells #[.string (bs latN), .slice A n c] 24) := ⟨_, rfl⟩
  have V3 := Lib.hid (show Hp w (obox g1 latN A n c :: (sgv A n c vs latL :: pool) ++ [obox g0 [] none 0 0]) W2 by
    rw [hW2, hg1]; exact V1.out.obox_new latN A n c)
  have HW2 := Lib.hid hW2
  have HG1 := Lib.hid hg1
  clear hW2 hg1
  go_upto_region 2 with fail
  rw [← HG1.out, ← HW2.out]
  obtain ⟨z0, z1, z2⟩ := V3.out.obox_at (i := 0) rfl
  have hlast : (obox g1 latN A n c :: (sgv A n c vs latL :: pool) ++ [obox g0 [] none 0 0])[pool.length + 2]? = some (obox g0 [] none 0 0) := by
    show (pool ++ [obox g0 [] none 0 0])[pool.length]? = _
    exact get_last
  obtain ⟨u01, u02, u03⟩ := V3.out.box_at (T := 24) (g := g0) (cs := oC [] none 0 0) hlast (j := 0) rfl
  obtain ⟨u11, u12, u13⟩ := V3.out.box_at (T := 24) (g := g0) (cs := oC [] none 0 0) hlast (j := 1) rfl
  have V4 := Lib.hid (show Hp w (sgv A n c vs latL :: pool) ((W2.setCell ⟨g0, 0, none⟩ (.string (bs latN))).setCell ⟨g0, 1, none⟩ (.slice A n c)) by
    have h1 := Hp.box_set (T := 24) (g := g0) (cs := oC [] none 0 0) V3.out hlast 0 (.string (bs latN))
    have h2 := Hp.box_set (T := 24) (g := g0) (i := pool.length + 2) h1 (by rw [Pt.set_at (by simp), if_pos rfl]) 1 (.slice A n c)
    refine h2.sub (fun i => i + 1) (fun i j e => by omega) (fun i it hi => ?_)
    have hil := (List.getElem?_eq_some_iff.1 hi).1
    rw [List.length_cons] at hil
    rw [Pt.set_at (by simp), if_neg (by omega), Pt.set_at (by simp), if_neg (by omega)]
    show ((sgv A n c vs latL :: pool) ++ [obox g0 [] none 0 0])[i]? = _
    rw [List.getElem?_append_left (by rw [List.length_cons]; omega)]; exact hi)
  clear hlast
  go_wp2_with fail
  refine bodyPost_ret (v := .agg #[.string (bs latN), .slice A n c]) (by simp [results, Tryz.results14, go_sem, u01, u11]) rfl ⟨A, n, c, vs, pool, rfl, HN.out, HVS.out, HPO.out, V4.out⟩
end Go.Proofs.YtjamfcihjendiaaGreat
