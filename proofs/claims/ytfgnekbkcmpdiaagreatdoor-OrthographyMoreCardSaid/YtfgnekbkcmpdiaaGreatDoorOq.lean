/- Contract of the chapter's examples. -/
import Derived.Test.YtfgnekbkcmpdiaaGreatDoorOp
import Derived.Test.YtfgnekbkcmpdiaaGreatDoorUw
import Derived.Test.YtfgnekbkcmpdiaaGreatDoorUk
namespace Go.Proofs.YtfgnekbkcmpdiaaGreatDoor
open Go.RowKit
set_option linter.unusedVariables false
set_option linter.unusedSimpArgs false
set_option maxRecDepth 100000

theorem sg_in2 {W w : World} {it : Itm} {pool : List Itm} {n c : Nat} {A : Option Addr} {vs : List (Option Addr × Nat)} {L : List Sg} (h : Hp W (it :: sgv A n c vs L :: pool) w) (hl : vs.length = L.length) (hp : Pool pool vs L) : SgnIn w A L :=
  sg_pool h.tail hl hp
set_option maxHeartbeats 2000000 in
theorem snds_call (l : List UInt8) (L : List Snd) (w : World) (hv : prsV l = (L, 0)) (hl : l.length ≤ 4000) :
    Calls Tryz.prog 20 #[.string (bs l)] w fun e w' => ∃ A n c, e = .returned (.slice A n c) ∧ L.length = n ∧ Hp w [snds A n c L] w' := by
  have HV := Lib.hid (show prsV (bs l).data.toList = (L, 0) by rw [bs_list]; exact hv)
  have HL := Lib.hid (show (bs l).size ≤ 140737488355328 by rw [bs_size]; omega)
  clear hv hl
  go_enter Tryz.func20, Tryz.ntmps20
  go_wp2_with fail
  refine (rparse_any _ _ L 0 HV.out HL.out).mono ?_
  rintro e w1 ⟨A, n, c, rfl, hn, hp⟩
  have HN := Lib.hid hn
  have HP := Lib.hid hp
  clear hn hp
  go_wp2_with fail
  go_ret
  exact ⟨A, n, c, rfl, HN.out, HP.out⟩
def awA : List Snd := [⟨1, 3, [97]⟩]
def awT : List Snd := [⟨3, 0, [116]⟩]
def awS : List Sg := [⟨[112, 104], [], 0, 0⟩, ⟨[101, 95], [], 0, 0⟩]
theorem aw_a : prsV [97, 47, 118, 51] = (awA, 0) := fmt_prs (by rfl)
theorem aw_t : prsV [116, 47, 109] = (awT, 0) := fmt_prs (by rfl)
theorem aw_i : fndI [105] latL = [2, 22, 23] := by kernel_rfl
theorem aw_q : fndI [113, 117] latL = [28] := by kernel_rfl
theorem aw_alph : alpN (useB (useA awS)) 256 = [95, 101, 104, 112] := by kernel_rfl
set_option maxHeartbeats 8000000 in
theorem awake12_any (w : World) (hm : MaxAt w) : Calls Tryz.prog 6 #[] w fun e w' => e = .returned (.bool true) ∧ Below w.heap.size w w' := by
  have HM := Lib.hid hm
  clear hm
  go_enter Tryz.func6, Tryz.ntmps6
  go_wp2_with fail
  refine (latin_any _ HM.out).mono ?_
  rintro e w1 ⟨A, n, c, vs, pool, rfl, hn, hvs, hpool, hp1⟩
  obtain rfl : n = 47 := by rw [← hn]; rfl
  have HVS := Lib.hid hvs
  have HPO := Lib.hid hpool
  have HP1 := Lib.hid hp1
  clear hp1 hn hvs hpool
  obtain ⟨g1, hg1⟩ : ∃ z, z = w1.heap.size := ⟨_, rfl⟩
  obtain ⟨W2, hW2⟩ : ∃ z, z = w1.alloc (.cells #[.string (bs latN), .slice A 47 c] 25) := ⟨_, rfl⟩
  have V2 := Lib.hid (show Hp w (obox g1 latN A 47 c :: sgv A 47 c vs latL :: pool) W2 by
    rw [hW2, hg1]; exact HP1.out.obox_new latN A 47 c)
  have HW2 := Lib.hid hW2
  have HG1 := Lib.hid hg1
  clear hW2 hg1
  go_upto_region 2 with fail
  rw [← HG1.out, ← HW2.out]
  go_wp2_with fail
  refine (snds_call [97, 47, 118, 51] awA _ aw_a (by decide)).mono ?_
  rintro e w3 ⟨Aa, na, ca, rfl, hna, hpa⟩
  obtain rfl : na = 1 := hna.symm
  have V3 := Lib.hid (V2.out.go hpa.below)
  have CA := Lib.hid (hpa.cells (i := 0) (A := Aa) (c := ca) rfl rfl)
  clear hpa hna
  go_wp2_with fail
  refine (snds_call [116, 47, 109] awT _ aw_t (by decide)).mono ?_
  rintro e w4 ⟨At, nt, ct, rfl, hnt, hpt⟩
  obtain rfl : nt = 1 := hnt.symm
  have V4 := Lib.hid (V3.out.go hpt.below)
  have CA4 := Lib.hid (CA.out.below hpt.below)
  have CT4 := Lib.hid (hpt.cells (i := 0) (A := At) (c := ct) rfl rfl)
  clear hpt hnt
  obtain ⟨z0, z1, z2⟩ := V4.out.obox_at (i := 0) rfl
  go_wp2_with fail
  refine (find_any latN latL [105] A 47 c _ rfl (by decide) (sg_in2 V4.out HVS.out HPO.out)).mono ?_
  rintro e w5 ⟨C5, m5, d5, rfl, hm5, hp5⟩
  rw [aw_i] at hm5 hp5
  obtain rfl : m5 = 3 := hm5
  have V5 := Lib.hid (V4.out.go hp5.below)
  have CA5 := Lib.hid (CA4.out.below hp5.below)
  have CT5 := Lib.hid (CT4.out.below hp5.below)
  have X5 := Lib.hid (hp5.cells (i := 0) (A := C5) (c := d5) rfl rfl)
  clear hp5 z0 z1 z2
  obtain ⟨W, hW⟩ : ∃ W, W = w5.alloc (.cells #[.int .i64 2, .int .i64 22, .int .i64 23] 3) := ⟨_, rfl⟩
  obtain ⟨g, hg⟩ : ∃ g, g = w5.heap.size := ⟨_, rfl⟩
  have P6 := (Hp.start w5).lit 3 1 3 [.int .i64 2, .int .i64 22, .int .i64 23] rfl (by decide)
  have Y6 := Lib.hid (show CellsIn W (some ⟨g, 0, none⟩) (ints [2, 22, 23]) by rw [hW, hg]; exact P6.cells (i := 0) (A := some ⟨w5.heap.size, 0, none⟩) (c := 3) rfl rfl)
  have B6 := Lib.hid (show Below w5.heap.size w5 W by rw [hW]; exact bnew _ _)
  have HW := Lib.hid hW
  have HG := Lib.hid hg
  clear P6 hW hg
  go_wp2_with fail
  rw [← HW.out, ← HG.out]
  refine (equal_nums C5 (some ⟨g, 0, none⟩) 3 d5 3 3 [2, 22, 23] [2, 22, 23] W rfl rfl (by decide) (by decide) (X5.out.below B6.out) Y6.out).mono ?_
  rintro e w6 ⟨rfl, hb6⟩
  rw [show decide (([2, 22, 23] : List Int) = [2, 22, 23]) = true from rfl]
  have V6 := Lib.hid (V5.out.go (btwo B6.out hb6))
  have CA6 := Lib.hid (CA5.out.below (btwo B6.out hb6))
  have CT6 := Lib.hid (CT5.out.below (btwo B6.out hb6))
  clear hb6
  obtain ⟨z0, z1, z2⟩ := V6.out.obox_at (i := 0) rfl
  go_wp2_with fail
  refine (find_any latN latL [113, 117] A 47 c _ rfl (by decide) (sg_in2 V6.out HVS.out HPO.out)).mono ?_
  rintro e w7 ⟨C7, m7, d7, rfl, hm7, hp7⟩
  rw [aw_q] at hm7 hp7
  obtain rfl : m7 = 1 := hm7
  have V7 := Lib.hid (V6.out.go hp7.below)
  have CA7 := Lib.hid (CA6.out.below hp7.below)
  have CT7 := Lib.hid (CT6.out.below hp7.below)
  have X7 := Lib.hid (hp7.cells (i := 0) (A := C7) (c := d7) rfl rfl)
  clear hp7 z0 z1 z2
  obtain ⟨Wb, hWb⟩ : ∃ W, W = w7.alloc (.cells #[.int .i64 28] 3) := ⟨_, rfl⟩
  obtain ⟨gb, hgb⟩ : ∃ g, g = w7.heap.size := ⟨_, rfl⟩
  have P8 := (Hp.start w7).lit 3 1 1 [.int .i64 28] rfl (by decide)
  have Y8 := Lib.hid (show CellsIn Wb (some ⟨gb, 0, none⟩) (ints [28]) by rw [hWb, hgb]; exact P8.cells (i := 0) (A := some ⟨w7.heap.size, 0, none⟩) (c := 1) rfl rfl)
  have B8 := Lib.hid (show Below w7.heap.size w7 Wb by rw [hWb]; exact bnew _ _)
  have HWb := Lib.hid hWb
  have HGb := Lib.hid hgb
  clear P8 hWb hgb
  go_wp2_with fail
  rw [← HWb.out, ← HGb.out]
  refine (equal_nums C7 (some ⟨gb, 0, none⟩) 1 d7 1 1 [28] [28] Wb rfl rfl (by decide) (by decide) (X7.out.below B8.out) Y8.out).mono ?_
  rintro e w8 ⟨rfl, hb8⟩
  rw [show decide (([28] : List Int) = [28]) = true from rfl]
  have V8 := Lib.hid (V7.out.go (btwo B8.out hb8))
  have CA8 := Lib.hid (CA7.out.below (btwo B8.out hb8))
  have CT8 := Lib.hid (CT7.out.below (btwo B8.out hb8))
  clear hb8
  obtain ⟨z0, z1, z2⟩ := V8.out.obox_at (i := 0) rfl
  go_wp2_with fail
  refine (fits_any latN latL 28 47 c 0 0 1 ca A none Aa _ [] awA rfl (by decide) (sg_in2 V8.out HVS.out HPO.out) rfl (by decide) rfl (by decide) (CellsIn.nil _ _) CA8.out).mono ?_
  rintro e w9 ⟨rfl, hb9⟩
  rw [show fitB latL 28 [] awA = true from by kernel_rfl]
  have V9 := Lib.hid (V8.out.go hb9)
  have CA9 := Lib.hid (CA8.out.below hb9)
  have CT9 := Lib.hid (CT8.out.below hb9)
  clear hb9 z0 z1 z2
  obtain ⟨z0, z1, z2⟩ := V9.out.obox_at (i := 0) rfl
  go_wp2_with fail
  refine (fits_any latN latL 28 47 c 0 0 1 ct A none At _ [] awT rfl (by decide) (sg_in2 V9.out HVS.out HPO.out) rfl (by decide) rfl (by decide) (CellsIn.nil _ _) CT9.out).mono ?_
  rintro e wa ⟨rfl, hba⟩
  rw [show fitB latL 28 [] awT = false from by kernel_rfl]
  have Va := Lib.hid (V9.out.go hba)
  have CAa := Lib.hid (CA9.out.below hba)
  clear hba z0 z1 z2
  obtain ⟨z0, z1, z2⟩ := Va.out.obox_at (i := 0) rfl
  go_wp2_with fail
  refine (fits_any latN latL 28 47 c 1 ca 0 0 A Aa none _ awA [] rfl (by decide) (sg_in2 Va.out HVS.out HPO.out) rfl (by decide) rfl (by decide) CAa.out (CellsIn.nil _ _)).mono ?_
  rintro e wb ⟨rfl, hbb⟩
  rw [show fitB latL 28 awA [] = false from by kernel_rfl]
  have Vb := Lib.hid (Va.out.go hbb)
  clear hbb z0 z1 z2
  obtain ⟨Wd, hWd⟩ : ∃ W, W = wb.alloc (.cells #[.string (bs [112, 104]), .slice none 0 0, .int .i64 0, .int .i64 0, .string (bs [101, 95]), .slice none 0 0, .int .i64 0, .int .i64 0] 34) := ⟨_, rfl⟩
  obtain ⟨gd, hgd⟩ : ∃ g, g = wb.heap.size := ⟨_, rfl⟩
  have Pd := (Hp.start wb).lit 34 4 2 [.string (bs [112, 104]), .slice none 0 0, .int .i64 0, .int .i64 0, .string (bs [101, 95]), .slice none 0 0, .int .i64 0, .int .i64 0] rfl (by decide)
  have Yd := Lib.hid (show SgnIn Wd (some ⟨gd, 0, none⟩) awS by
    rw [hWd, hgd]
    exact sg_in (i := 0) (n := 2) (c := 2) (d := 0) (vs := [(none, 0), (none, 0)]) Pd rfl rfl (fun j v x hv hx => by
      match j, hv, hx with
      | 0, hv, hx => injection hv with hv; injection hx with hx; subst hv; subst hx; exact CellsIn.nil _ _
      | 1, hv, hx => injection hv with hv; injection hx with hx; subst hv; subst hx; exact CellsIn.nil _ _
      | j + 2, hv, _ => simp at hv))
  have Bd := Lib.hid (show Below w.heap.size w Wd by rw [hWd]; exact btwo Vb.out.below (bnew _ _))
  have HWd := Lib.hid hWd
  have HGd := Lib.hid hgd
  clear Pd hWd hgd
  go_wp2_with fail
  rw [show (⟨#[112, 104]⟩ : ByteArray) = bs [112, 104] from rfl, show (⟨#[101, 95]⟩ : ByteArray) = bs [101, 95] from rfl, show (⟨#[]⟩ : ByteArray) = bs [] from rfl, ← HWd.out, ← HGd.out]
  refine (alph_any [] awS (some ⟨gd, 0, none⟩) 2 2 _ rfl (by decide) (by decide) Yd.out).mono ?_
  rintro e wz ⟨rfl, hbz⟩
  rw [aw_alph]
  have Bz := Lib.hid (btwo Bd.out hbz)
  have e1 : ((bs [95, 101, 104, 112]).toList == (⟨#[95, 101, 104, 112]⟩ : ByteArray).toList) = true := by rw [toL, ByteArray.toList_eq]; rfl
  have e2 : ((bs [95, 101, 104, 112]).toList == [95, 101, 104, 112]) = true := by rw [toL]; rfl
  clear hbz
  go_wp2_with fail
  go_ret
  exact ⟨rfl, Bz.out⟩
end Go.Proofs.YtfgnekbkcmpdiaaGreatDoor
