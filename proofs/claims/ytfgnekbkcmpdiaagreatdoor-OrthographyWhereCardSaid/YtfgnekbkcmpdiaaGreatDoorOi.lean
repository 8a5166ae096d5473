/- Contracts of the program: Valid, Parse of what was written, Latin and Greek. -/
import Derived.Test.YtfgnekbkcmpdiaaGreatDoorOh
namespace Go.Proofs.YtfgnekbkcmpdiaaGreatDoor
open Go.RowKit
set_option linter.unusedVariables false
set_option linter.unusedSimpArgs false
set_option maxRecDepth 100000

def latN : List UInt8 := [108, 97, 116, 105, 110]
def latL : List Sg := [
  ⟨[97], [⟨1, 3, [97]⟩], 1, 0⟩,
  ⟨[101], [⟨1, 3, [101]⟩], 1, 0⟩,
  ⟨[105], [⟨1, 3, [105]⟩], 1, 0⟩,
  ⟨[111], [⟨1, 3, [111]⟩], 1, 0⟩,
  ⟨[117], [⟨1, 3, [117]⟩], 1, 0⟩,
  ⟨[121], [⟨1, 3, [121]⟩], 1, 0⟩,
  ⟨[97, 95], [⟨1, 2, [97, 95]⟩], 1, 0⟩,
  ⟨[101, 95], [⟨1, 2, [101, 95]⟩], 1, 0⟩,
  ⟨[105, 95], [⟨1, 2, [105, 95]⟩], 1, 0⟩,
  ⟨[111, 95], [⟨1, 2, [111, 95]⟩], 1, 0⟩,
  ⟨[117, 95], [⟨1, 2, [117, 95]⟩], 1, 0⟩,
  ⟨[121, 95], [⟨1, 2, [121, 95]⟩], 1, 0⟩,
  ⟨[97, 94], [⟨1, 1, [97, 94]⟩], 1, 0⟩,
  ⟨[101, 94], [⟨1, 1, [101, 94]⟩], 1, 0⟩,
  ⟨[105, 94], [⟨1, 1, [105, 94]⟩], 1, 0⟩,
  ⟨[111, 94], [⟨1, 1, [111, 94]⟩], 1, 0⟩,
  ⟨[117, 94], [⟨1, 1, [117, 94]⟩], 1, 0⟩,
  ⟨[121, 94], [⟨1, 1, [121, 94]⟩], 1, 0⟩,
  ⟨[97, 101], [⟨2, 2, [97, 101]⟩], 1, 0⟩,
  ⟨[97, 117], [⟨2, 2, [97, 117]⟩], 1, 0⟩,
  ⟨[111, 101], [⟨2, 2, [111, 101]⟩], 1, 0⟩,
  ⟨[101, 117], [⟨2, 2, [101, 117]⟩], 3, 0⟩,
  ⟨[105], [⟨8, 0, [105]⟩], 0, 2⟩,
  ⟨[105], [⟨8, 0, [105]⟩, ⟨8, 0, [105]⟩], 0, 3⟩,
  ⟨[117], [⟨8, 0, [117]⟩], 0, 2⟩,
  ⟨[117], [⟨8, 0, [117]⟩], 0, 3⟩,
  ⟨[106], [⟨8, 0, [106]⟩], 0, 0⟩,
  ⟨[118], [⟨8, 0, [118]⟩], 0, 0⟩,
  ⟨[113, 117], [⟨3, 0, [113, 117]⟩], 0, 1⟩,
  ⟨[103, 117], [⟨3, 0, [103, 117]⟩], 2, 1⟩,
  ⟨[115, 117], [⟨6, 0, [115]⟩, ⟨8, 0, [117]⟩], 3, 1⟩,
  ⟨[98], [⟨3, 0, [98]⟩], 0, 0⟩,
  ⟨[99], [⟨3, 0, [99]⟩], 0, 0⟩,
  ⟨[100], [⟨3, 0, [100]⟩], 0, 0⟩,
  ⟨[102], [⟨3, 0, [102]⟩], 0, 0⟩,
  ⟨[103], [⟨3, 0, [103]⟩], 0, 0⟩,
  ⟨[107], [⟨3, 0, [107]⟩], 0, 0⟩,
  ⟨[112], [⟨3, 0, [112]⟩], 0, 0⟩,
  ⟨[116], [⟨3, 0, [116]⟩], 0, 0⟩,
  ⟨[108], [⟨4, 0, [108]⟩], 0, 0⟩,
  ⟨[114], [⟨4, 0, [114]⟩], 0, 0⟩,
  ⟨[109], [⟨5, 0, [109]⟩], 0, 0⟩,
  ⟨[110], [⟨5, 0, [110]⟩], 0, 0⟩,
  ⟨[115], [⟨6, 0, [115]⟩], 0, 0⟩,
  ⟨[120], [⟨7, 0, [120]⟩], 0, 0⟩,
  ⟨[122], [⟨7, 0, [122]⟩], 0, 0⟩,
  ⟨[104], [⟨9, 0, [104]⟩], 0, 0⟩]
theorem lat_ok : (vO latN latL).2 = 0 := by kernel_rfl
theorem lat_len : latL.length = 47 := rfl
def grkN : List UInt8 := [103, 114, 101, 101, 107]
def grkL : List Sg := [
  ⟨[97], [⟨1, 3, [97]⟩], 1, 0⟩,
  ⟨[105], [⟨1, 3, [105]⟩], 1, 0⟩,
  ⟨[117], [⟨1, 3, [117]⟩], 1, 0⟩,
  ⟨[97, 95], [⟨1, 2, [97, 95]⟩], 1, 0⟩,
  ⟨[105, 95], [⟨1, 2, [105, 95]⟩], 1, 0⟩,
  ⟨[117, 95], [⟨1, 2, [117, 95]⟩], 1, 0⟩,
  ⟨[97, 94], [⟨1, 1, [97, 94]⟩], 1, 0⟩,
  ⟨[105, 94], [⟨1, 1, [105, 94]⟩], 1, 0⟩,
  ⟨[117, 94], [⟨1, 1, [117, 94]⟩], 1, 0⟩,
  ⟨[101], [⟨1, 1, [101]⟩], 1, 0⟩,
  ⟨[111], [⟨1, 1, [111]⟩], 1, 0⟩,
  ⟨[101, 95], [⟨1, 2, [101, 95]⟩], 1, 0⟩,
  ⟨[111, 95], [⟨1, 2, [111, 95]⟩], 1, 0⟩,
  ⟨[97, 105], [⟨2, 2, [97, 105]⟩], 1, 0⟩,
  ⟨[97, 117], [⟨2, 2, [97, 117]⟩], 1, 0⟩,
  ⟨[101, 105], [⟨2, 2, [101, 105]⟩], 1, 0⟩,
  ⟨[101, 117], [⟨2, 2, [101, 117]⟩], 1, 0⟩,
  ⟨[111, 105], [⟨2, 2, [111, 105]⟩], 1, 0⟩,
  ⟨[111, 117], [⟨2, 2, [111, 117]⟩], 1, 0⟩,
  ⟨[117, 105], [⟨2, 2, [117, 105]⟩], 1, 0⟩,
  ⟨[112, 104], [⟨3, 0, [112, 104]⟩], 0, 0⟩,
  ⟨[116, 104], [⟨3, 0, [116, 104]⟩], 0, 0⟩,
  ⟨[107, 104], [⟨3, 0, [107, 104]⟩], 0, 0⟩,
  ⟨[112], [⟨3, 0, [112]⟩], 0, 0⟩,
  ⟨[116], [⟨3, 0, [116]⟩], 0, 0⟩,
  ⟨[107], [⟨3, 0, [107]⟩], 0, 0⟩,
  ⟨[98], [⟨3, 0, [98]⟩], 0, 0⟩,
  ⟨[100], [⟨3, 0, [100]⟩], 0, 0⟩,
  ⟨[103], [⟨3, 0, [103]⟩], 0, 0⟩,
  ⟨[114, 104], [⟨4, 0, [114, 104]⟩], 0, 0⟩,
  ⟨[108], [⟨4, 0, [108]⟩], 0, 0⟩,
  ⟨[114], [⟨4, 0, [114]⟩], 0, 0⟩,
  ⟨[109], [⟨5, 0, [109]⟩], 0, 0⟩,
  ⟨[110], [⟨5, 0, [110]⟩], 0, 0⟩,
  ⟨[115], [⟨6, 0, [115]⟩], 0, 0⟩,
  ⟨[112, 115], [⟨7, 0, [112, 115]⟩], 0, 0⟩,
  ⟨[107, 115], [⟨7, 0, [107, 115]⟩], 0, 0⟩,
  ⟨[120], [⟨7, 0, [120]⟩], 0, 0⟩,
  ⟨[122], [⟨7, 0, [122]⟩], 0, 0⟩,
  ⟨[104], [⟨9, 0, [104]⟩], 0, 2⟩]
theorem grk_ok : (vO grkN grkL).2 = 0 := by kernel_rfl
theorem grk_len : grkL.length = 40 := rfl
theorem SgBd.ok {nm : List UInt8} {L : List Sg} (h : (vO nm L).2 = 0) : SgBd L := by
  obtain ⟨_, _, _, h4⟩ := vO_zero h
  intro x hx
  obtain ⟨a, b, c, _⟩ := sgE_zero (h4 x hx)
  have := txE_zero a
  exact ⟨by omega, by omega, fun y hy => by have := vS_zero (c y hy); omega⟩
theorem nm_bnd {nm : List UInt8} {L : List Sg} (h : (vO nm L).2 = 0) : nm.length ≤ 20 := (name_bd (vO_zero h).1).2.1
set_option maxHeartbeats 4000000 in
theorem ovalid_any (nm : List UInt8) (L : List Sg) (A : Option Addr) (n c : Nat) (w : World) (hnm : nm.length ≤ 140737488355328) (hl : L.length = n) (hn : n ≤ 17592186044416) (hnc : n ≤ c) (hs : SgBd L) (hA : SgnIn w A L) :
    Calls Tryz.prog 12 #[.agg #[.string (bs nm), .slice A n c]] w fun e w' => e = .returned (.int .i64 (vO nm L).2) ∧ Below w.heap.size w w' := by
  obtain ⟨g1, hg1⟩ : ∃ z, z = w.heap.size := ⟨_, rfl⟩
  obtain ⟨W1, hW1⟩ : ∃ z, z = w.alloc (.cells #[.string (bs nm), .slice A n c] 25) := ⟨_, rfl⟩
  have V1 := Lib.hid (show Hp w [obox g1 nm A n c] W1 by rw [hW1, hg1]; exact (Hp.start w).obox_new nm A n c)
  have HW1 := Lib.hid hW1
  have HG1 := Lib.hid hg1
  have HF := Lib.hid (fault_any nm L A n c W1 hnm hl hn hnc hs (hA.below V1.out.below))
  obtain ⟨x0, x1, x2⟩ := V1.out.obox_at (i := 0) rfl
  clear hW1 hg1 hA hs hl hnm
  go_enter Tryz.func12, Tryz.ntmps12
  go_upto_region 1 with fail
  rw [← HG1.out, ← HW1.out]
  go_wp2_with fail
  refine HF.out.mono ?_
  rintro e w2 ⟨rfl, hb⟩
  have B2 := Lib.hid (btwo V1.out.below hb)
  clear hb
  go_wp2_with fail
  go_ret
  exact ⟨rfl, B2.out⟩
set_option maxHeartbeats 8000000 in
theorem oparse_any (s : ByteArray) (nm : List UInt8) (L : List Sg) (w : World) (hs : s = bs (txO nm L)) (hv : (vO nm L).2 = 0) (hm : MaxAt w) :
    Calls Tryz.prog 22 #[.string s] w (OPost nm L [.int .i64 0, .int .i64 0] w) := by
  subst hs
  have hlen := txO_len hv
  have hz : (bs (txO nm L)).size ≤ 5100 := by rw [bs_size]; exact hlen
  have HV := Lib.hid hv
  have HB := Lib.hid (SgBd.ok hv)
  have hnb := nm_bnd hv
  have hl120 := (vO_zero hv).2.2.1
  have HVO := Lib.hid (vO_ok hv)
  have HM := Lib.hid hm
  obtain ⟨g0, hg0⟩ : ∃ z, z = w.heap.size := ⟨_, rfl⟩
  obtain ⟨W0, hW0⟩ : ∃ z, z = w.alloc (.cells #[.string ⟨#[]⟩, .slice none 0 0] 25) := ⟨_, rfl⟩
  have V0 := Lib.hid (show Hp w [obox g0 [] none 0 0] W0 by rw [hW0, hg0]; exact (Hp.start w).obox_new [] none 0 0)
  have HW0 := Lib.hid hW0
  have HG0 := Lib.hid hg0
  clear hW0 hg0 hm hv hlen
  go_enter Tryz.func22, Tryz.ntmps22
  go_upto_region 1 with fail
  rw [← HG0.out, ← HW0.out]
  go_wp2_with fail
  refine (read_any_o nm L _ HV.out (HM.out.below V0.out.below)).mono ?_
  rintro e w1 ⟨A, n, c, vs, pool, rfl, hn, hvs, hpool, hp1⟩
  have V1 := Lib.hid (V0.out.join hp1)
  have HN := Lib.hid hn
  have HVS := Lib.hid hvs
  have HPO := Lib.hid hpool
  clear hp1 hn hvs hpool
  obtain ⟨g1, hg1⟩ : ∃ z, z = w1.heap.size := ⟨_, rfl⟩
  obtain ⟨W2, hW2⟩ : ∃ z, z = w1.alloc (.cells #[.string (bs nm), .slice A n c] 25) := ⟨_, rfl⟩
  have V2 := Lib.hid (show Hp w (obox g1 nm A n c :: (sgv A n c vs L :: pool) ++ [obox g0 [] none 0 0]) W2 by
    rw [hW2, hg1]; exact V1.out.obox_new nm A n c)
  have hcap := (V2.out.cap (i := 1) (it := sgv A n c vs L) rfl (A := A) (c := c) rfl).1
  have hcap2 : n ≤ c := hcap
  have HS := Lib.hid (show SgnIn W2 A L from sg_in (i := 1) (d := 0) V2.out rfl HVS.out (fun j v x hv hx => by
    obtain ⟨k, hk⟩ := HPO.out j v x hv hx
    have hkl := (List.getElem?_eq_some_iff.1 hk).1
    exact V2.out.cells (i := k + 2) (it := snds v.1 x.s.length v.2 x.s) (by
      show ((pool ++ [obox g0 [] none 0 0]))[k]? = _
      rw [List.getElem?_append_left hkl]; exact hk) rfl))
  have HW2 := Lib.hid hW2
  have HG1 := Lib.hid hg1
  have hn120 : n ≤ 120 := by have := HN.out; omega
  clear hW2 hg1 hcap hl120
  go_upto_region 4 with fail
  rw [← HG1.out, ← HW2.out]
  obtain ⟨z0, z1, z2⟩ := V2.out.obox_at (i := 0) rfl
  go_wp2_with fail
  refine (fault_any nm L A n c _ (by omega) HN.out (by omega) hcap2 HB.out HS.out).mono ?_
  rintro e w3 ⟨rfl, hb3⟩
  rw [HVO.out]
  have V3 := Lib.hid (V2.out.go hb3)
  clear hb3 z0 z1 z2
  obtain ⟨z0, z1, z2⟩ := V3.out.obox_at (i := 0) rfl
  have hlast : (obox g1 nm A n c :: (sgv A n c vs L :: pool) ++ [obox g0 [] none 0 0])[pool.length + 2]? = some (obox g0 [] none 0 0) := by
    show (pool ++ [obox g0 [] none 0 0])[pool.length]? = _
    exact get_last
  obtain ⟨u01, u02, u03⟩ := V3.out.box_at (T := 25) (g := g0) (cs := oC [] none 0 0) hlast (j := 0) rfl
  obtain ⟨u11, u12, u13⟩ := V3.out.box_at (T := 25) (g := g0) (cs := oC [] none 0 0) hlast (j := 1) rfl
  have V4 := Lib.hid (show Hp w (sgv A n c vs L :: pool) ((w3.setCell ⟨g0, 0, none⟩ (.string (bs nm))).setCell ⟨g0, 1, none⟩ (.slice A n c)) by
    have h1 := Hp.box_set (T := 25) (g := g0) (cs := oC [] none 0 0) V3.out hlast 0 (.string (bs nm))
    have h2 := Hp.box_set (T := 25) (g := g0) (i := pool.length + 2) h1 (by rw [Pt.set_at (by simp), if_pos rfl]) 1 (.slice A n c)
    refine h2.sub (fun i => i + 1) (fun i j e => by omega) (fun i it hi => ?_)
    have hil := (List.getElem?_eq_some_iff.1 hi).1
    rw [List.length_cons] at hil
    rw [Pt.set_at (by simp), if_neg (by omega), Pt.set_at (by simp), if_neg (by omega)]
    show ((sgv A n c vs L :: pool) ++ [obox g0 [] none 0 0])[i]? = _
    rw [List.getElem?_append_left (by rw [List.length_cons]; omega)]; exact hi)
  clear hlast
  go_wp2_with fail
  refine bodyPost_ret (v := .tuple #[.agg #[.string (bs nm), .slice A n c], .int .i64 0, .int .i64 0]) (by simp [results, Tryz.results22, go_sem, u01, u11]) rfl ⟨A, n, c, vs, pool, rfl, HN.out, HVS.out, HPO.out, V4.out⟩
set_option maxHeartbeats 8000000 in
theorem latin_any (w : World) (hm : MaxAt w) : Calls Tryz.prog 7 #[] w (OnlyO latN latL w) := by
  have HM := Lib.hid hm
  obtain ⟨g0, hg0⟩ : ∃ z, z = w.heap.size := ⟨_, rfl⟩
  obtain ⟨W0, hW0⟩ : ∃ z, z = w.alloc (.cells #[.string ⟨#[]⟩, .slice none 0 0] 25) := ⟨_, rfl⟩
  have V0 := Lib.hid (show Hp w [obox g0 [] none 0 0] W0 by rw [hW0, hg0]; exact (Hp.start w).obox_new [] none 0 0)
  have HW0 := Lib.hid hW0
  have HG0 := Lib.hid hg0
  clear hW0 hg0 hm
  go_enter Tryz.func7, Tryz.ntmps7
  go_upto_region 1 with fail
  rw [← HG0.out, ← HW0.out]
  go_wp2_with fail
  refine (oparse_any _ latN latL _ (by kernel_rfl) lat_ok (HM.out.below V0.out.below)).mono ?_
  rintro e w1 ⟨A, n, c, vs, pool, rfl, hn, hvs, hpool, hp1⟩
  have V1 := Lib.hid (V0.out.join hp1)
  have HN := Lib.hid hn
  have HVS := Lib.hid hvs
  have HPO := Lib.hid hpool
  clear hp1 hn hvs hpool
  obtain ⟨g1, hg1⟩ : ∃ z, z = w1.heap.size := ⟨_, rfl⟩
  obtain ⟨W2, hW2⟩ : ∃ z, z = w1.alloc (.cells #[.string (bs latN), .slice A n c] 25) := ⟨_, rfl⟩
  have V3 := Lib.hid (show Hp w (obox g1 latN A n c :: (sgv A n c vs latL :: pool) ++ [obox g0 [] none 0 0]) W2 by
    rw [hW2, hg1]; exact V1.out.obox_new latN A n c)
  have HW2 := Lib.hid hW2
  have HG1 := Lib.hid hg1
  clear hW2 hg1
  go_upto_region 2 with fail
  rw [← HG1.out, ← HW2.out]
  obtain ⟨z0, z1, z2⟩ := V3.out.obox_at (i := 0) rfl
  have hlast : (obox g1 latN A n c :: (sgv A n c vs latL :: pool) ++ [obox g0 [] none 0 0])[pool.length + 2]? = some (obox g0 [] none 0 0) := by
    show (pool ++ [obox g0 [] none 0 0])[pool.length]? = _
    exact get_last
  obtain ⟨u01, u02, u03⟩ := V3.out.box_at (T := 25) (g := g0) (cs := oC [] none 0 0) hlast (j := 0) rfl
  obtain ⟨u11, u12, u13⟩ := V3.out.box_at (T := 25) (g := g0) (cs := oC [] none 0 0) hlast (j := 1) rfl
  have V4 := Lib.hid (show Hp w (sgv A n c vs latL :: pool) ((W2.setCell ⟨g0, 0, none⟩ (.string (bs latN))).setCell ⟨g0, 1, none⟩ (.slice A n c)) by
    have h1 := Hp.box_set (T := 25) (g := g0) (cs := oC [] none 0 0) V3.out hlast 0 (.string (bs latN))
    have h2 := Hp.box_set (T := 25) (g := g0) (i := pool.length + 2) h1 (by rw [Pt.set_at (by simp), if_pos rfl]) 1 (.slice A n c)
    refine h2.sub (fun i => i + 1) (fun i j e => by omega) (fun i it hi => ?_)
    have hil := (List.getElem?_eq_some_iff.1 hi).1
    rw [List.length_cons] at hil
    rw [Pt.set_at (by simp), if_neg (by omega), Pt.set_at (by simp), if_neg (by omega)]
    show ((sgv A n c vs latL :: pool) ++ [obox g0 [] none 0 0])[i]? = _
    rw [List.getElem?_append_left (by rw [List.length_cons]; omega)]; exact hi)
  clear hlast
  go_wp2_with fail
  refine bodyPost_ret (v := .agg #[.string (bs latN), .slice A n c]) (by simp [results, Tryz.results7, go_sem, u01, u11]) rfl ⟨A, n, c, vs, pool, rfl, HN.out, HVS.out, HPO.out, V4.out⟩
set_option maxHeartbeats 8000000 in
theorem greek_any (w : World) (hm : MaxAt w) : Calls Tryz.prog 8 #[] w (OnlyO grkN grkL w) := by
  have HM := Lib.hid hm
  obtain ⟨g0, hg0⟩ : ∃ z, z = w.heap.size := ⟨_, rfl⟩
  obtain ⟨W0, hW0⟩ : ∃ z, z = w.alloc (.cells #[.string ⟨#[]⟩, .slice none 0 0] 25) := ⟨_, rfl⟩
  have V0 := Lib.hid (show Hp w [obox g0 [] none 0 0] W0 by rw [hW0, hg0]; exact (Hp.start w).obox_new [] none 0 0)
  have HW0 := Lib.hid hW0
  have HG0 := Lib.hid hg0
  clear hW0 hg0 hm
  go_enter Tryz.func8, Tryz.ntmps8
  go_upto_region 1 with fail
  rw [← HG0.out, ← HW0.out]
  go_wp2_with fail
  refine (oparse_any _ grkN grkL _ (by kernel_rfl) grk_ok (HM.out.below V0.out.below)).mono ?_
  rintro e w1 ⟨A, n, c, vs, pool, rfl, hn, hvs, hpool, hp1⟩
  have V1 := Lib.hid (V0.out.join hp1)
  have HN := Lib.hid hn
  have HVS := Lib.hid hvs
  have HPO := Lib.hid hpool
  clear hp1 hn hvs hpool
  obtain ⟨g1, hg1⟩ : ∃ z, z = w1.heap.size := ⟨_, rfl⟩
  obtain ⟨W2, hW2⟩ : ∃ z, z = w1.alloc (.cells #[.string (bs grkN), .slice A n c] 25) := ⟨_, rfl⟩
  have V3 := Lib.hid (show Hp w (obox g1 grkN A n c :: (sgv A n c vs grkL :: pool) ++ [obox g0 [] none 0 0]) W2 by
    rw [hW2, hg1]; exact V1.out.obox_new grkN A n c)
  have HW2 := Lib.hid hW2
  have HG1 := Lib.hid hg1
  clear hW2 hg1
  go_upto_region 2 with fail
  rw [← HG1.out, ← HW2.out]
  obtain ⟨z0, z1, z2⟩ := V3.out.obox_at (i := 0) rfl
  have hlast : (obox g1 grkN A n c :: (sgv A n c vs grkL :: pool) ++ [obox g0 [] none 0 0])[pool.length + 2]? = some (obox g0 [] none 0 0) := by
    show (pool ++ [obox g0 [] none 0 0])[pool.length]? = _
    exact get_last
  obtain ⟨u01, u02, u03⟩ := V3.out.box_at (T := 25) (g := g0) (cs := oC [] none 0 0) hlast (j := 0) rfl
  obtain ⟨u11, u12, u13⟩ := V3.out.box_at (T := 25) (g := g0) (cs := oC [] none 0 0) hlast (j := 1) rfl
  have V4 := Lib.hid (show Hp w (sgv A n c vs grkL :: pool) ((W2.setCell ⟨g0, 0, none⟩ (.string (bs grkN))).setCell ⟨g0, 1, none⟩ (.slice A n c)) by
    have h1 := Hp.box_set (T := 25) (g := g0) (cs := oC [] none 0 0) V3.out hlast 0 (.string (bs grkN))
    have h2 := Hp.box_set (T := 25) (g := g0) (i := pool.length + 2) h1 (by rw [Pt.set_at (by simp), if_pos rfl]) 1 (.slice A n c)
    refine h2.sub (fun i => i + 1) (fun i j e => by omega) (fun i it hi => ?_)
    have hil := (List.getElem?_eq_some_iff.1 hi).1
    rw [List.length_cons] at hil
    rw [Pt.set_at (by simp), if_neg (by omega), Pt.set_at (by simp), if_neg (by omega)]
    show ((sgv A n c vs grkL :: pool) ++ [obox g0 [] none 0 0])[i]? = _
    rw [List.getElem?_append_left (by rw [List.length_cons]; omega)]; exact hi)
  clear hlast
  go_wp2_with fail
  refine bodyPost_ret (v := .agg #[.string (bs grkN), .slice A n c]) (by simp [results, Tryz.results8, go_sem, u01, u11]) rfl ⟨A, n, c, vs, pool, rfl, HN.out, HVS.out, HPO.out, V4.out⟩
end Go.Proofs.YtfgnekbkcmpdiaaGreatDoor
