/- Contracts of the program: reading an orthography that was written. -/
import Derived.Test.YtfgnekbkcmpdiaaGreatDoorOg
namespace Go.Proofs.YtfgnekbkcmpdiaaGreatDoor
open Go.RowKit
set_option linter.unusedVariables false
set_option linter.unusedSimpArgs false
set_option maxRecDepth 100000

/-- The parts of a text at its first line's end, as the library answers. -/
theorem cut_b {a r : List UInt8} (h : ∀ c ∈ a, c ≠ 10) : (⟨(Lib.cut (bs (a ++ 10 :: r)).data.toList (⟨#[10]⟩ : ByteArray).data.toList).1.toArray⟩ : ByteArray) = bs a ∧ (⟨(Lib.cut (bs (a ++ 10 :: r)).data.toList (⟨#[10]⟩ : ByteArray).data.toList).2.1.toArray⟩ : ByteArray) = bs r ∧ (Lib.cut (bs (a ++ 10 :: r)).data.toList (⟨#[10]⟩ : ByteArray).data.toList).2.2 = true := by
  have := cut_at (r := r) h
  have e : Lib.cut (bs (a ++ 10 :: r)).data.toList (⟨#[10]⟩ : ByteArray).data.toList = (a, r, true) := this
  rw [e]; exact ⟨rfl, rfl, rfl⟩
theorem lnsO_drop {L : List Sg} {k : Nat} {x : Sg} (h : L[k]? = some x) : lnsO (L.drop k) = lnS x ++ 10 :: lnsO (L.drop (k + 1)) := by rw [drop_at h, lnsO_cons]
theorem lnsO_drop_len {L : List Sg} (h : ∀ x ∈ L, sgE x = 0) (k : Nat) : (lnsO (L.drop k)).length ≤ L.length * 42 := by
  have := lnsO_len (L := L.drop k) (fun x hx => h x (List.mem_of_mem_drop hx))
  rw [List.length_drop] at this; omega
set_option maxHeartbeats 8000000 in
theorem read_any_o (nm : List UInt8) (L : List Sg) (w : World) (hv : (vO nm L).2 = 0) (hm : MaxAt w) :
    Calls Tryz.prog 29 #[.string (bs (txO nm L))] w (OPost nm L [.int .i64 0] w) := by
  obtain ⟨hn, hl0, hl1, hall⟩ := vO_zero hv
  have hlen := txO_len hv
  have hcut := cut_b (r := lnsO L) (hd_10 hn)
  have CA := Lib.hid hcut.1
  have CB := Lib.hid hcut.2.1
  have CC := Lib.hid hcut.2.2
  have HN := Lib.hid hn
  have HALL := Lib.hid hall
  have HD := Lib.hid (fun k => lnsO_drop_len hall k)
  have HZ := Lib.hid (show (bs (txO nm L)).size < 4294967281 by rw [bs_size]; omega)
  have HM := Lib.hid hm
  obtain ⟨n, hnn⟩ : ∃ n, n = L.length := ⟨_, rfl⟩
  have HL := Lib.hid hnn.symm
  have hn120 : n ≤ 120 := by omega
  obtain ⟨g0, hg0⟩ : ∃ z, z = w.heap.size := ⟨_, rfl⟩
  obtain ⟨W0, hW0⟩ : ∃ z, z = w.alloc (.cells #[.string ⟨#[]⟩, .slice none 0 0] 25) := ⟨_, rfl⟩
  have V0 := Lib.hid (show Hp w [obox g0 [] none 0 0] W0 by rw [hW0, hg0]; exact (Hp.start w).obox_new [] none 0 0)
  have HW0 := Lib.hid hW0
  have HG0 := Lib.hid hg0
  obtain ⟨mx, hmx⟩ := hm.below V0.out.below
  clear hW0 hg0 hm hv hn hall hlen hcut hl0 hl1 hnn
  go_enter Tryz.func29, Tryz.ntmps29
  go_upto_region 1 with fail
  rw [← HG0.out, ← HW0.out]
  go_wp2_with fail
  refine (Tryz.strings_Cut (bs (txO nm L)) ⟨#[10]⟩ mx _ HZ.out hmx).mono ?_
  rintro e w1 ⟨rfl, q, rfl⟩
  rw [show txO nm L = (hdO ++ nm) ++ 10 :: lnsO L from rfl, CA.out, CB.out, CC.out]
  have V1 := Lib.hid (V0.out.go (bdrewN _ q))
  obtain ⟨W1, hW1⟩ : ∃ z, z = W0.drewN q := ⟨_, rfl⟩
  have HW1 := Lib.hid hW1
  rw [← hW1] at V1
  clear hmx hW1
  rw [← HW1.out]
  go_wp2_with fail
  refine (rdhead_any nm _ HN.out).mono ?_
  rintro e w2 ⟨rfl, hw⟩
  subst hw
  obtain ⟨g1, hg1⟩ : ∃ z, z = W1.heap.size := ⟨_, rfl⟩
  obtain ⟨W2, hW2⟩ : ∃ z, z = W1.alloc (.cells #[.string (bs nm), .slice none 0 0] 25) := ⟨_, rfl⟩
  have V2 := Lib.hid (show Hp w [sgv none 0 0 [] [], obox g1 nm none 0 0, obox g0 [] none 0 0] W2 by
    rw [hW2, hg1]; exact (V1.out.obox_new nm none 0 0).nil_row _ rfl rfl rfl)
  have HW2 := Lib.hid hW2
  have HG1 := Lib.hid hg1
  clear hW2 hg1
  go_upto_region 6 with fail
  rw [← HG1.out, ← HW2.out]
  go_wp2_with fail
  have R0 := Lib.hid (show (bs (lnsO L)) = bs (lnsO (L.drop 0)) from rfl)
  go_loopw [5, 10] (fun rv lv wr => ∃ (k : Nat) (A : Option Addr) (c : Nat) (vs : List (Option Addr × Nat)) (pool : List Itm), k ≤ n ∧ rv = .string (bs (lnsO (L.drop k))) ∧ lv = .int .i64 ((k : Int) + 2) ∧ vs.length = k ∧ Pool pool vs (L.take k) ∧ Hp w (sgv A k c vs (L.take k) :: obox g1 nm A k c :: obox g0 [] none 0 0 :: pool) wr) (fun _ lv _ => n + 2 - (intOf lv).toNat)
  case atStart => exact ⟨0, none, 0, [], [], Nat.zero_le _, rfl, rfl, rfl, Pool.nil _, V2.out⟩
  case round =>
    obtain ⟨k, A, c, vs, pool, hk, rfl, rfl, hvs, hpool, hV⟩ := hrel
    obtain ⟨wi, rfl⟩ : ∃ wi : World, wi = wr := ⟨_, rfl⟩
    have V3 := Lib.hid hV
    have HVS := Lib.hid hvs
    have HPO := Lib.hid hpool
    clear hV hvs hpool V2 V1 V0 R0
    by_cases hlt : k < n
    · obtain ⟨x, hx⟩ := get_at (L := L) (k := k) (by have := HL.out; omega)
      have HX := Lib.hid hx
      have HX0 := Lib.hid (HALL.out x (List.mem_of_getElem? hx))
      have hcut := cut_b (r := lnsO (L.drop (k + 1))) (lnS_10 HX0.out)
      rw [← lnsO_drop hx] at hcut
      have DCA := Lib.hid hcut.1
      have DB := Lib.hid hcut.2.1
      have DC := Lib.hid hcut.2.2
      have hne : ¬ (lnsO (L.drop k)).length = 0 := by rw [lnsO_drop hx, List.length_append, List.length_cons]; omega
      obtain ⟨q1, q2⟩ := ful_l hne
      have hz : (bs (lnsO (L.drop k))).size < 4294967281 := by rw [bs_size]; have := HD.out k; have := HL.out; omega
      have HZ1 := Lib.hid hz
      obtain ⟨mx, hmx⟩ := HM.out.below V3.out.below
      have q3 : ((bs (lnsO (L.drop k))).toList != []) = true := by rw [bne, q1]; rfl
      clear hx hcut hne hz
      go_wp2_with fail
      refine (Tryz.strings_Cut (bs (lnsO (L.drop k))) ⟨#[10]⟩ mx _ HZ1.out hmx).mono ?_
      rintro e w3 ⟨rfl, q, rfl⟩
      rw [DCA.out, DB.out, DC.out]
      obtain ⟨W3, hW3⟩ : ∃ z, z = wi.drewN q := ⟨_, rfl⟩
      have V4 := Lib.hid (V3.out.go (bdrewN _ q))
      have HW3 := Lib.hid hW3
      rw [← hW3] at V4
      clear hmx hW3 q1 q2 q3
      rw [← HW3.out]
      go_wp2_with fail
      refine (rdsign_any x HX0.out _ (HM.out.below V4.out.below)).mono ?_
      rintro e w4 ⟨As, cs, rfl, hp4⟩
      have V5 := Lib.hid (V4.out.join hp4)
      clear hp4
      obtain ⟨gs, hgs⟩ : ∃ z, z = w4.heap.size := ⟨_, rfl⟩
      obtain ⟨W4, hW4⟩ : ∃ z, z = w4.alloc (.cells #[.string (bs x.t), .slice As x.s.length cs, .int .i64 x.c, .int .i64 x.w] 34) := ⟨_, rfl⟩
      have V6 := Lib.hid (show Hp w (sgbox gs (As, cs) x :: snds As x.s.length cs x.s :: sgv A k c vs (L.take k) :: obox g1 nm A k c :: obox g0 [] none 0 0 :: pool) W4 by rw [hW4, hgs]; exact V5.out.sgbox_new As cs x)
      have HW4 := Lib.hid hW4
      have HGS := Lib.hid hgs
      clear hW4 hgs
      go_upto_region 11 with fail
      rw [← HGS.out, ← HW4.out]
      obtain ⟨y0, y1, y2, y3, y4⟩ := V6.out.sgbox_at (i := 0) rfl
      dsimp only at y1
      obtain ⟨z0, z1, z2⟩ := V6.out.obox_at (i := 3) rfl
      obtain ⟨wy, hwy⟩ : ∃ z, z = W4.alloc (.cells #[.string (bs x.t), .slice As x.s.length cs, .int .i64 x.c, .int .i64 x.w] 34) := ⟨_, rfl⟩
      have V7 := Lib.hid (show Hp w (sgbox W4.heap.size (As, cs) x :: sgbox gs (As, cs) x :: snds As x.s.length cs x.s :: sgv A k c vs (L.take k) :: obox g1 nm A k c :: obox g0 [] none 0 0 :: pool) wy by rw [hwy]; exact V6.out.sgbox_new As cs x)
      obtain ⟨g5, cap5, w5, hr5, hv5, _⟩ := run_app_sg V7.out (i := 3) rfl (by rw [HVS.out, List.length_take]; have := HL.out; omega) 23 (b := W4.heap.size) (As, cs) x (fun j u hu => (V7.out.box_at (i := 0) rfl hu).1) (by omega)
      rw [← take_snocA HX.out] at hv5
      have V8 := Lib.hid (show Hp w (sgbox W4.heap.size (As, cs) x :: sgbox gs (As, cs) x :: snds As x.s.length cs x.s :: sgv (some ⟨g5, 0, none⟩) (k + 1) cap5 (vs ++ [(As, cs)]) (L.take (k + 1)) :: obox g1 nm A k c :: obox g0 [] none 0 0 :: pool) w5 from hv5)
      have zf := V8.out.box_at (i := 4) (T := 25) (g := g1) (cs := oC nm A k c) rfl (j := 1) rfl
      obtain ⟨zf1, zf2, zf3⟩ := zf
      have V9 := Lib.hid (show Hp w (sgbox W4.heap.size (As, cs) x :: sgbox gs (As, cs) x :: snds As x.s.length cs x.s :: sgv (some ⟨g5, 0, none⟩) (k + 1) cap5 (vs ++ [(As, cs)]) (L.take (k + 1)) :: obox g1 nm (some ⟨g5, 0, none⟩) (k + 1) cap5 :: obox g0 [] none 0 0 :: pool) (w5.setCell ⟨g1, 1, none⟩ (.slice (some ⟨g5, 0, none⟩) (k + 1) cap5)) from
        Hp.box_set (T := 25) (g := g1) (cs := oC nm A k c) V8.out (i := 4) rfl 1 (.slice (some ⟨g5, 0, none⟩) (k + 1) cap5))
      have HPN := Lib.hid (Pool.more HPO.out (by rw [HVS.out, List.length_take]; have := HL.out; omega) As cs x)
      rw [← take_snocA HX.out] at HPN
      have HVN := Lib.hid (show (vs ++ [(As, cs)]).length = k + 1 by rw [List.length_append, HVS.out]; rfl)
      have HY := Lib.hid hwy
      have HR5 := Lib.hid hr5
      clear hwy hr5 hv5
      go_wp2_with (at_builtin; rw [← HY.out]; refine wpList_app_run rfl (.tmp 57) (.tmp 59) 23 rfl HR5.out rfl rfl ?_)
      go_roundw
      case rel => exact ⟨k + 1, _, cap5, _, _, by omega, rfl, by go_num, HVN.out, HPN.out, Hp.sink (l := [_, _, _]) V9.out.tail.tail⟩
      case measure => simp [intOf]; omega
    · obtain rfl : k = n := by omega
      have hd : L.drop k = [] := List.drop_eq_nil_of_le (by have := HL.out; omega)
      have ht : L.take k = L := List.take_of_length_le (by have := HL.out; omega)
      obtain ⟨q1, q2⟩ := emp_l (t := lnsO (L.drop k)) (by rw [hd]; rfl)
      have q3 : ((bs (lnsO (L.drop k))).toList != []) = false := by rw [bne, q1]; rfl
      rw [ht] at V3 HPO
      obtain ⟨z0, z1, z2⟩ := V3.out.obox_at (i := 1) rfl
      have u0 := V3.out.box_at (i := 2) (T := 25) (g := g0) (cs := oC [] none 0 0) rfl (j := 0) rfl
      have u1 := V3.out.box_at (i := 2) (T := 25) (g := g0) (cs := oC [] none 0 0) rfl (j := 1) rfl
      obtain ⟨u01, u02, u03⟩ := u0
      obtain ⟨u11, u12, u13⟩ := u1
      have V4 := Lib.hid (show Hp w (sgv A k c vs L :: obox g1 nm A k c :: obox g0 nm A k c :: pool) ((wi.setCell ⟨g0, 0, none⟩ (.string (bs nm))).setCell ⟨g0, 1, none⟩ (.slice A k c)) from
        Hp.box_set (T := 25) (g := g0) (cs := [.string (bs nm), .slice none 0 0]) (Hp.box_set (T := 25) (g := g0) (cs := oC [] none 0 0) V3.out (i := 2) rfl 0 (.string (bs nm))) (i := 2) rfl 1 (.slice A k c))
      clear hd ht
      go_wp2_with fail
      refine bodyPost_ret (v := .tuple #[.agg #[.string (bs nm), .slice A k c], .int .i64 0]) (by simp [results, Tryz.results29, go_sem, u01, u11]) rfl ⟨A, k, c, vs, pool, rfl, HL.out, by rw [HVS.out, HL.out], HPO.out, V4.out.drop2.drop2⟩
end Go.Proofs.YtfgnekbkcmpdiaaGreatDoor
