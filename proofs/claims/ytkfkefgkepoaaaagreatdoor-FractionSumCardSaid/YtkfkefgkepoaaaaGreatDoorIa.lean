/- The reference's sum of a list. -/
import Derived.Test.YtkfkefgkepoaaaaGreatDoorHz
namespace Go.Proofs.YtkfkefgkepoaaaaGreatDoor
open Go.RowKit
set_option linter.unusedVariables false
set_option maxRecDepth 100000

set_option linter.unusedSimpArgs false
theorem sumR_err {s s2 : Bool} {p q r t : Int} (h : ¬ (sumR s s2 p q r t).2.2.2 = 0) : sumR s s2 p q r t = (false, 0, 0, (sumR s s2 p q r t).2.2.2) := by
  unfold sumR low at *
  repeat' split at h
  all_goals first
    | exact absurd rfl h
    | simp_all
theorem radd_num3 (s s2 : Bool) (n c m d n2 c2 m2 d2 : Nat) (p q r t : Int) (A B A2 B2 : Option Addr) (W : World) (hp : NumAt W (.slice A n c) p) (hq : NumAt W (.slice B m d) q) (hr : NumAt W (.slice A2 n2 c2) r) (ht : NumAt W (.slice B2 m2 d2) t) (h : Fr s p q) (k : Fr s2 r t) :
    Calls Tryz.prog 22 #[.agg #[.bool s, .slice A n c, .slice B m d], .agg #[.bool s2, .slice A2 n2 c2, .slice B2 m2 d2]] W (FrE (sumR s s2 p q r t) W) := by
  obtain ⟨a1, a2, a3, a4, a5, a6, a7, a8⟩ := num_in hp
  obtain ⟨b1, b2, b3, b4, b5, b6, b7, b8⟩ := num_in hq
  obtain ⟨c1, c2', c3, c4, c5, c6, c7, c8⟩ := num_in hr
  obtain ⟨d1, d2', d3, d4, d5, d6, d7, d8⟩ := num_in ht
  have := radd3_any s s2 (digs p) (digs q) (digs r) (digs t) n c m d n2 c2 m2 d2 A B A2 B2 W a1 b1 a2 b2 a4 b4 a5 b5 c1 d1 c2' d2' c4 d4 c5 d5
  rwa [opR_ok (vldF_digs h a6 b6 a7 b7) (vldF_digs k c6 d6 c7 d7), a7, b7, c7, d7] at this
set_option maxHeartbeats 4000000 in
theorem rsumL_any (l : List FL) (A0 : Option Addr) (n c : Nat) (W : World) (hn : l.length = n) (hn4 : n ≤ 13) (hA : FracL W A0 l) :
    Calls Tryz.prog 8 #[.slice A0 n c] W (FrE (sumL l) W) := by
  have HL := Lib.hid hn
  have HA := Lib.hid hA
  clear hn hA
  have V0 := Lib.hid ((BoxF.start W).new false none 0 0 none 0 0)
  obtain ⟨W0, hW0⟩ : ∃ x, x = W.alloc (.cells #[.bool false, .slice none 0 0, .slice none 0 0] 32) := ⟨_, rfl⟩
  have HW0 := Lib.hid hW0
  rw [← hW0] at V0
  clear hW0
  go_enter Tryz.func8, Tryz.ntmps8
  go_upto_region 2 with fail
  rw [← HW0.out]
  go_loopw [4] (fun iv wr => ∃ k : Nat, k ≤ n ∧ iv = .int .i64 (k : Int) ∧ Hid (allV (l.take k) = true) ∧ Hid (BoxF W [(W.heap.size, ⟨false, none, 0, 0, none, 0, 0⟩)] [] wr)) (fun iv _ => n - (intOf iv).toNat)
  case atStart => exact ⟨0, Nat.zero_le _, rfl, Lib.hid rfl, V0⟩
  case round =>
    obtain ⟨k, hk, rfl, HV, VR⟩ := hrel
    by_cases hlt : k < n
    · have hlk : k < l.length := by rw [HL.out]; exact hlt
      have HAk := HA.out.below VR.out.2.2
      obtain ⟨x, hx⟩ : ∃ x, x = l[k] := ⟨_, rfl⟩
      have hxi := HAk.1 l[k] (List.getElem_mem hlk)
      obtain ⟨b, off, rfl, hbl, hcs⟩ := HAk.2 (by omega)
      obtain ⟨h0, h1, h2⟩ := hcs k l[k] (List.getElem?_eq_getElem hlk)
      rw [← hx] at hxi h0 h1 h2
      obtain ⟨⟨x1, x2, x3, x4, x5, x6⟩, x7, x8⟩ := hxi
      have HX := Lib.hid hx
      have HX1 := Lib.hid x1
      have HX2 := Lib.hid x2
      have HX7 := Lib.hid x7
      have HX8 := Lib.hid x8
      clear x1 x2 x7 x8 hcs HAk hx
      cases hv : vldF x.s x.L x.M with
      | true =>
        have HVX := Lib.hid hv
        clear hv
        go_wp2_with fail
        refine (rfvalid_is x.s x.L x.M x.n x.c x.m x.d x.A x.B _ HX1.out HX2.out x3 x4 (by unfold maxLen; omega) (by unfold maxLen; omega) HX7.out HX8.out HVX.out).mono ?_
        rintro e w3 ⟨rfl, b3⟩
        have V3 := Lib.hid (VR.out.go b3)
        have HN := Lib.hid (allV_step hlk HV.out (by rw [← HX.out]; exact HVX.out))
        clear b3 h0 h1 h2
        go_wp2_with fail
        go_roundw
        case rel => exact ⟨k + 1, by omega, by go_num, HN, V3⟩
        case measure => simp [intOf]; omega
      | false =>
        have HVX := Lib.hid hv
        clear hv
        go_wp2_with fail
        refine (rfvalid_is x.s x.L x.M x.n x.c x.m x.d x.A x.B _ HX1.out HX2.out x3 x4 (by unfold maxLen; omega) (by unfold maxLen; omega) HX7.out HX8.out HVX.out).mono ?_
        rintro e w3 ⟨rfl, b3⟩
        have V3 := Lib.hid (VR.out.go b3)
        have HN := Lib.hid (show sumL l = (false, 0, 0, 1) by unfold sumL; rw [allV_stop hlk (by rw [← HX.out]; exact HVX.out)]; rfl)
        clear b3 h0 h1 h2
        have V4 := Lib.hid (V3.out.set (.head _) ⟨false, none, 0, 0, none, 0, 0⟩ [(W.heap.size, ⟨false, none, 0, 0, none, 0, 0⟩)] (List.forall_mem_cons.2 ⟨.inl rfl, fun _ h => by simp at h⟩))
        obtain ⟨a0, a1, a2, a3⟩ := V3.out.box (.head _)
        obtain ⟨o0, o1, o2⟩ := V3.out.open (.head _)
        obtain ⟨c0, c1, c2x, c3⟩ := V4.out.box (.head _)
        go_wp2_with fail
        refine bodyPost_ret (v := .tuple #[.agg #[.bool false, .slice none 0 0, .slice none 0 0], .int .i64 1]) ?_ rfl ?_
        · simp [results, Tryz.results8, go_sem, c0, c1, c2x]
        · rw [HN.out]
          exact ⟨none, 0, 0, none, 0, 0, rfl, num_nil _, num_nil _, V4.out.2.2⟩
    · obtain rfl : k = n := by omega
      rw [List.take_of_length_le (by rw [HL.out]; exact Nat.le_refl _)] at HV
      clear hlt hk
      go_wp2_with fail
      refine (rfzero_any _).mono ?_
      rintro e w1 ⟨Ay, cy, ky, Az, cz, kz, rfl, n1, m1, e1⟩
      have U1 := Lib.hid (((VR.out.go e1).num m1).num n1)
      clear n1 m1 e1
      have V1 := Lib.hid (U1.out.new false Ay ky cy Az kz cz)
      obtain ⟨w2, hw2⟩ : ∃ y, y = w1.alloc (.cells #[.bool false, .slice Ay ky cy, .slice Az kz cz] 32) := ⟨_, rfl⟩
      rw [← hw2] at V1
      have HW2 := Lib.hid hw2
      clear hw2
      go_upto_region 8 with fail
      rw [← HW2.out]
      go_loopw [6] (fun iv wr => ∃ (j : Nat) (s : Bool) (p q : Int) (f : FB), j ≤ k ∧ iv = .int .i64 (j : Int) ∧ f.s = s ∧ Hid (foldS (false, 0, 1, 0) (l.take j) = (s, p, q, 0)) ∧ Hid (BoxF W [(w1.heap.size, f), (W.heap.size, ⟨false, none, 0, 0, none, 0, 0⟩)] [(.slice f.A f.n f.c, p), (.slice f.B f.m f.d, q)] wr)) (fun iv _ => k - (intOf iv).toNat)
      case atStart => exact ⟨0, false, 0, 1, ⟨false, Ay, ky, cy, Az, kz, cz⟩, Nat.zero_le _, rfl, rfl, Lib.hid rfl, V1⟩
      case round =>
        have hWw := (U1.out.lt (.head _)).2
        obtain ⟨j, s, p, q, f, hj, rfl, hs, HFO, VT⟩ := hrel
        subst hs
        have hsum : foldS (false, 0, 1, 0) l = foldS (f.s, p, q, 0) (l.drop j) := by rw [← HFO.out, ← foldS_append, List.take_append_drop]
        have hval : sumL l = foldS (false, 0, 1, 0) l := by unfold sumL; rw [if_pos HV.out]
        have HG := Lib.hid (show GoodF (f.s, p, q, 0) by rw [← HFO.out]; exact foldS_good (allV_take HV.out j) zero_good)
        have HSUM := Lib.hid (hval.trans hsum)
        clear hsum hval
        by_cases hlt : j < k
        · have hlk : j < l.length := by rw [HL.out]; exact hlt
          have HAk := HA.out.below VT.out.2.2
          have hvx : vldF l[j].s l[j].L l[j].M = true := by have h := HV.out; unfold allV at h; rw [List.all_eq_true] at h; exact h _ (List.getElem_mem hlk)
          obtain ⟨x, hx⟩ : ∃ x, x = l[j] := ⟨_, rfl⟩
          have hxi := HAk.1 l[j] (List.getElem_mem hlk)
          obtain ⟨b, off, rfl, hbl, hcs⟩ := HAk.2 (by omega)
          obtain ⟨h0, h1, h2⟩ := hcs j l[j] (List.getElem?_eq_getElem hlk)
          have hdrop : l.drop j = x :: l.drop (j + 1) := by rw [hx]; exact List.drop_eq_getElem_cons hlk
          rw [← hx] at hxi h0 h1 h2 hvx
          obtain ⟨⟨x1, x2, x3, x4, x5, x6⟩, x7, x8⟩ := hxi
          obtain ⟨y1, y2, y3, y4, y5⟩ := vldF_pos hvx
          have hfx := fr_of hvx
          have N1 := Lib.hid (num_mk x1 x3 (by unfold maxLen; omega) x7 y1)
          have N2 := Lib.hid (num_mk x2 x4 (by unfold maxLen; omega) x8 y2)
          have hff := HG.out.fr rfl
          obtain ⟨⟨s', p', q', e'⟩, hr⟩ : ∃ r, r = sumR f.s x.s p q (val x.L) (val x.M) := ⟨_, rfl⟩
          have HS := Lib.hid (fun w hp hq hr' ht => show Calls Tryz.prog 22 #[.agg #[.bool f.s, .slice f.A f.n f.c, .slice f.B f.m f.d], .agg #[.bool x.s, .slice x.A x.n x.c, .slice x.B x.m x.d]] w (FrE (s', p', q', e') w) by rw [hr]; exact radd_num3 f.s x.s f.n f.c f.m f.d x.n x.c x.m x.d p q (val x.L) (val x.M) f.A f.B x.A x.B w hp hq hr' ht hff hfx)
          have HF2 := Lib.hid (show foldS (false, 0, 1, 0) (l.take (j + 1)) = (s', p', q', e') by rw [List.take_succ_eq_append_getElem hlk, foldS_snoc, HFO.out, if_pos rfl, hr, hx])
          have HE2 := Lib.hid (show sumL l = foldS (s', p', q', e') (l.drop (j + 1)) by rw [HSUM.out, hdrop, foldS, if_pos rfl, hr])
          have HZ2 := Lib.hid (show ¬ e' = 0 → (s', p', q', e') = (false, 0, 0, e') from fun h => by have h3 := sumR_err (s := f.s) (s2 := x.s) (p := p) (q := q) (r := val x.L) (t := val x.M); rw [← hr] at h3; exact h3 h)
          obtain ⟨a0, a1, a2, a3⟩ := VT.out.box (.head _)
          have D1 := (VT.out.lt (.head _)).2
          clear x1 x2 x7 x8 hcs HAk y1 y2 y4 y5 hr hx hvx hfx hff hdrop
          go_upto_region 10 with fail
          refine wp_region_held_drew (S := fun w' => Below wr.heap.size wr w') (by kernel_rfl) (Below.refl _ _).drew (fun hHeld => ?_)
          have VD := Lib.hid (VT.out.go (w' := wr.drew) (Below.refl _ _).drew)
          have RD := Lib.hid ((BoxF.start wr).go (w' := wr.drew) (Below.refl _ _).drew)
          have ER := Lib.hid D1
          refine wpAnyH_take (i := 0) (v := ?_) (List.getElem?_toArray.trans rfl) (by kernel_rfl) (by kernel_rfl) (by kernel_rfl) (fun _ _ _ h => h) (Or.inl ⟨by rfl, ?_⟩) (by assumption) ?_
          rotate_left
          · intro wl hSw
            have hSw : Below wr.heap.size wr wl := hSw
            have k0 := (hSw.cell (p := ⟨w1.heap.size, 0, none⟩) (by show w1.heap.size < wr.heap.size; omega)).trans a0
            have k1 := (hSw.cell (p := ⟨w1.heap.size, 1, none⟩) (by show w1.heap.size < wr.heap.size; omega)).trans a1
            have k2 := (hSw.cell (p := ⟨w1.heap.size, 2, none⟩) (by show w1.heap.size < wr.heap.size; omega)).trans a2
            go_simp
            try (with_reducible rfl)
          try simp only [Act.put, List.setIfInBounds_toArray, List.set_cons_zero, List.set_cons_succ]
          refine wpAnyH_take (i := 1) (v := ?_) (List.getElem?_toArray.trans rfl) (by kernel_rfl) (by kernel_rfl) (by kernel_rfl) (fun _ _ _ h => h) (Or.inl ⟨by rfl, ?_⟩) (by assumption) ?_
          rotate_left
          · intro wl hSw; go_simp; try (with_reducible rfl)
          try simp only [Act.put, List.setIfInBounds_toArray, List.set_cons_zero, List.set_cons_succ]
          refine wpAnyH_take (i := 2) (v := ?_) (List.getElem?_toArray.trans rfl) (by kernel_rfl) (by kernel_rfl) (by kernel_rfl) (fun _ _ _ h => h) (Or.inl ⟨by rfl, ?_⟩) (by assumption) ?_
          rotate_left
          · intro wl hSw; go_simp; try (with_reducible rfl)
          try simp only [Act.put, List.setIfInBounds_toArray, List.set_cons_zero, List.set_cons_succ]
          refine wpAnyH_take (i := 3) (v := ?_) (List.getElem?_toArray.trans rfl) (by kernel_rfl) (by kernel_rfl) (by kernel_rfl) (fun _ _ _ h => h) (Or.inl ⟨by rfl, ?_⟩) (by assumption) ?_
          rotate_left
          · intro wl hSw; go_simp; try (with_reducible rfl)
          try simp only [Act.put, List.setIfInBounds_toArray, List.set_cons_zero, List.set_cons_succ]
          refine wpAnyH_take (i := 4) (v := ?_) (List.getElem?_toArray.trans rfl) (by kernel_rfl) (by kernel_rfl) (by kernel_rfl) (fun _ _ _ h => h) (Or.inl ⟨by rfl, ?_⟩) (by assumption) ?_
          rotate_left
          · intro wl hSw
            have hSw : Below wr.heap.size wr wl := hSw
            have k0 := (hSw.cell (p := ⟨b, off + j * 3, none⟩) (by show b < wr.heap.size; omega)).trans h0
            have k1 := (hSw.cell (p := ⟨b, off + j * 3 + 1, none⟩) (by show b < wr.heap.size; omega)).trans h1
            have k2 := (hSw.cell (p := ⟨b, off + j * 3 + 2, none⟩) (by show b < wr.heap.size; omega)).trans h2
            go_simp
            try (with_reducible rfl)
          try simp only [Act.put, List.setIfInBounds_toArray, List.set_cons_zero, List.set_cons_succ]
          clear a0 a1 a2 a3 h0 h1 h2
          refine wpAnyH_ready (rs := [5, 9]) (by kernel_rfl) (by simp) ?_
          refine AllReadyH.cons (List.getElem?_toArray.trans rfl) (fun K hK => ?_) (AllReadyH.cons (List.getElem?_toArray.trans rfl) (fun K hK => ?_) AllReadyH.nil)
          · go_simp
            refine (HS.out _ (VD.out.at (.head _)) (VD.out.at (.tail _ (.head _))) (N1.out.below (Below.refl _ _).drew) (N2.out.below (Below.refl _ _).drew)).mono ?_
            rintro e w5 ⟨Ax, cx, kx, Bx, dx, lx, rfl, nx, mx, bx⟩
            have V5 := Lib.hid (((VD.out.go bx).num mx).num nx)
            have R5 := Lib.hid (RD.out.go bx)
            clear nx mx
            try go_wp2_with fail
            refine hK.out _ _ R5.out.2.2 (fun hHeld => ?_)
            clear hK K bx
            try simp only [Act.put, List.setIfInBounds_toArray, List.set_cons_zero, List.set_cons_succ]
            refine wpAnyH_take (i := 6) (v := ?_) (List.getElem?_toArray.trans rfl) (by kernel_rfl) (by kernel_rfl) (by kernel_rfl) (fun _ _ _ h => h) (Or.inl ⟨by rfl, ?_⟩) (by assumption) ?_
            rotate_left
            · intro wl hSw; go_simp; try (with_reducible rfl)
            try simp only [Act.put, List.setIfInBounds_toArray, List.set_cons_zero, List.set_cons_succ]
            refine wpAnyH_take (i := 7) (v := ?_) (List.getElem?_toArray.trans rfl) (by kernel_rfl) (by kernel_rfl) (by kernel_rfl) (fun _ _ _ h => h) (Or.inl ⟨by rfl, ?_⟩) (by assumption) ?_
            rotate_left
            · intro wl hSw; go_simp; try (with_reducible rfl)
            try simp only [Act.put, List.setIfInBounds_toArray, List.set_cons_zero, List.set_cons_succ]
            refine wpAnyH_take (i := 8) (v := ?_) (List.getElem?_toArray.trans rfl) (by kernel_rfl) (by kernel_rfl) (by kernel_rfl) (fun _ _ _ h => h) (Or.inl ⟨by rfl, ?_⟩) (by assumption) ?_
            rotate_left
            · intro wl hSw; go_simp; try (with_reducible rfl)
            try simp only [Act.put, List.setIfInBounds_toArray, List.set_cons_zero, List.set_cons_succ]
            refine wpAnyH_ready (rs := [9]) (by kernel_rfl) (by simp) ?_
            refine AllReadyH.cons (List.getElem?_toArray.trans rfl) (fun K hK => ?_) AllReadyH.nil
            have L5 := (V5.out.lt (.head _)).2
            go_simp
            have V6 := Lib.hid (V5.out.new false none 0 0 none 0 0)
            have R6 := Lib.hid (R5.out.new false none 0 0 none 0 0)
            refine hK.out _ _ R6.out.2.2 (fun hHeld => ?_)
            clear hK K
            try simp only [Act.put, List.setIfInBounds_toArray, List.set_cons_zero, List.set_cons_succ]
            have L6 : w1.heap.size < w5.heap.size := L5
            have V7 := Lib.hid (V5.out.new s' Ax kx cx Bx lx dx)
            have R7 := Lib.hid (R5.out.new s' Ax kx cx Bx lx dx)
            refine wpAnyH_ready (rs := [10]) (by kernel_rfl) (by simp) ?_
            refine AllReadyH.cons (List.getElem?_toArray.trans rfl) (fun K hK => ?_) AllReadyH.nil
            go_simp
            refine hK.out _ _ R7.out.2.2 (fun hHeld => ?_)
            clear hK K
            try simp only [Act.put, List.setIfInBounds_toArray, List.set_cons_zero, List.set_cons_succ]
            refine wpAnyH_take (i := 11) (v := ?_) (List.getElem?_toArray.trans rfl) (by kernel_rfl) (by kernel_rfl) (by kernel_rfl) (fun _ _ _ h => h) (Or.inl ⟨by rfl, ?_⟩) (by assumption) ?_
            rotate_left
            · intro wl hSw; go_simp; try (with_reducible rfl)
            try simp only [Act.put, List.setIfInBounds_toArray, List.set_cons_zero, List.set_cons_succ]
            obtain ⟨w9, hw9⟩ : ∃ y, y = w5.alloc (.cells #[.bool s', .slice Ax kx cx, .slice Bx lx dx] 32) := ⟨_, rfl⟩
            have V9 : Hid (BoxF W [(w5.heap.size, ⟨s', Ax, kx, cx, Bx, lx, dx⟩), (w1.heap.size, f), (W.heap.size, ⟨false, none, 0, 0, none, 0, 0⟩)] [(.slice Ax kx cx, p'), (.slice Bx lx dx, q'), (.slice f.A f.n f.c, p), (.slice f.B f.m f.d, q)] w9) := by rw [hw9]; exact V7
            have HW9 := Lib.hid hw9
            clear V7 R7 hw9 hHeld
            refine wpAnyH_done (by kernel_rfl) ?_ _
            rw [← HW9.out]
            obtain ⟨a0, a1, a2, a3⟩ := V9.out.box (.head _)
            by_cases he : e' = 0
            · subst he
              obtain ⟨b0, b1, b2, b3⟩ := V9.out.box (.tail _ (.head _))
              obtain ⟨o0, o1, o2⟩ := V9.out.open (.tail _ (.head _))
              have V8 := Lib.hid ((V9.out.set (.tail _ (.head _)) ⟨s', Ax, kx, cx, Bx, lx, dx⟩ [(w1.heap.size, ⟨s', Ax, kx, cx, Bx, lx, dx⟩), (W.heap.size, ⟨false, none, 0, 0, none, 0, 0⟩)] (List.forall_mem_cons.2 ⟨.inl rfl, List.forall_mem_cons.2 ⟨.inr ⟨.tail _ (.tail _ (.head _)), by show ¬ W.heap.size = w1.heap.size; omega⟩, fun _ h => by simp at h⟩⟩)).sub (ln' := [(.slice Ax kx cx, p'), (.slice Bx lx dx, q')]) (fun _ h => h) (List.forall_mem_cons.2 ⟨.head _, List.forall_mem_cons.2 ⟨.tail _ (.head _), fun _ h => by simp at h⟩⟩))
              go_wp2_with fail
              go_roundw
              case rel => exact ⟨j + 1, s', p', q', ⟨s', Ax, kx, cx, Bx, lx, dx⟩, by omega, by go_num, rfl, HF2, V8⟩
              case measure => simp [intOf]; omega
            · have g1 : (e' == 0) = false := by simpa using he
              have g2 : (e' != 0) = true := by simpa using he
              have HR := Lib.hid (show sumL l = (false, 0, 0, e') by rw [HE2.out, foldS_err he, HZ2.out he])
              clear he
              obtain ⟨b0, b1, b2, b3⟩ := V9.out.box (.tail _ (.tail _ (.head _)))
              obtain ⟨o0, o1, o2⟩ := V9.out.open (.tail _ (.tail _ (.head _)))
              have V8 := Lib.hid (V9.out.set (.tail _ (.tail _ (.head _))) ⟨false, none, 0, 0, none, 0, 0⟩ [(W.heap.size, ⟨false, none, 0, 0, none, 0, 0⟩)] (List.forall_mem_cons.2 ⟨.inl rfl, fun _ h => by simp at h⟩))
              obtain ⟨c0, c1, c2x, c3⟩ := V8.out.box (.head _)
              go_wp2_with fail
              refine bodyPost_ret (v := .tuple #[.agg #[.bool false, .slice none 0 0, .slice none 0 0], .int .i64 e']) ?_ rfl ?_
              · simp [results, Tryz.results8, go_sem, c0, c1, c2x]
              · rw [HR.out]
                exact ⟨none, 0, 0, none, 0, 0, rfl, num_nil _, num_nil _, V8.out.2.2⟩
          · go_simp
            have VA := Lib.hid (VD.out.new false none 0 0 none 0 0)
            have RA := Lib.hid (RD.out.new false none 0 0 none 0 0)
            refine hK.out _ _ RA.out.2.2 (fun hHeld => ?_)
            clear hK K
            try simp only [Act.put, List.setIfInBounds_toArray, List.set_cons_zero, List.set_cons_succ]
            refine wpAnyH_ready (rs := [5]) (by kernel_rfl) (by simp) ?_
            refine AllReadyH.cons (List.getElem?_toArray.trans rfl) (fun K hK => ?_) AllReadyH.nil
            go_simp
            refine (HS.out _ (VA.out.at (.head _)) (VA.out.at (.tail _ (.head _))) (N1.out.below (btwo (Below.refl _ _).drew one_new)) (N2.out.below (btwo (Below.refl _ _).drew one_new))).mono ?_
            rintro e w5 ⟨Ax, cx, kx, Bx, dx, lx, rfl, nx, mx, bx⟩
            have V5 := Lib.hid (((VA.out.go bx).num mx).num nx)
            have R5 := Lib.hid (RA.out.go bx)
            clear nx mx
            try go_wp2_with fail
            refine hK.out _ _ R5.out.2.2 (fun hHeld => ?_)
            clear hK K bx
            try simp only [Act.put, List.setIfInBounds_toArray, List.set_cons_zero, List.set_cons_succ]
            refine wpAnyH_take (i := 6) (v := ?_) (List.getElem?_toArray.trans rfl) (by kernel_rfl) (by kernel_rfl) (by kernel_rfl) (fun _ _ _ h => h) (Or.inl ⟨by rfl, ?_⟩) (by assumption) ?_
            rotate_left
            · intro wl hSw; go_simp; try (with_reducible rfl)
            try simp only [Act.put, List.setIfInBounds_toArray, List.set_cons_zero, List.set_cons_succ]
            refine wpAnyH_take (i := 7) (v := ?_) (List.getElem?_toArray.trans rfl) (by kernel_rfl) (by kernel_rfl) (by kernel_rfl) (fun _ _ _ h => h) (Or.inl ⟨by rfl, ?_⟩) (by assumption) ?_
            rotate_left
            · intro wl hSw; go_simp; try (with_reducible rfl)
            try simp only [Act.put, List.setIfInBounds_toArray, List.set_cons_zero, List.set_cons_succ]
            refine wpAnyH_take (i := 8) (v := ?_) (List.getElem?_toArray.trans rfl) (by kernel_rfl) (by kernel_rfl) (by kernel_rfl) (fun _ _ _ h => h) (Or.inl ⟨by rfl, ?_⟩) (by assumption) ?_
            rotate_left
            · intro wl hSw; go_simp; try (with_reducible rfl)
            try simp only [Act.put, List.setIfInBounds_toArray, List.set_cons_zero, List.set_cons_succ]
            have V6 := Lib.hid (V5.out.sub (lb' := [(wr.heap.size, ⟨false, none, 0, 0, none, 0, 0⟩), (w1.heap.size, f), (W.heap.size, ⟨false, none, 0, 0, none, 0, 0⟩)]) (fun _ h => h) (fun _ h => h))
            have R6 := Lib.hid (R5.out.sub (lb' := [(wr.heap.size, ⟨false, none, 0, 0, none, 0, 0⟩)]) (fun _ h => h) (fun _ h => h))
            obtain ⟨b0, b1, b2, b3⟩ := V6.out.box (.head _)
            obtain ⟨o0, o1, o2⟩ := V6.out.open (.head _)
            have V7 := Lib.hid (V6.out.set (.head _) ⟨s', Ax, kx, cx, Bx, lx, dx⟩ [(wr.heap.size, ⟨s', Ax, kx, cx, Bx, lx, dx⟩), (w1.heap.size, f), (W.heap.size, ⟨false, none, 0, 0, none, 0, 0⟩)] (List.forall_mem_cons.2 ⟨.inl rfl, List.forall_mem_cons.2 ⟨.inr ⟨.tail _ (.head _), by show ¬ w1.heap.size = wr.heap.size; omega⟩, List.forall_mem_cons.2 ⟨.inr ⟨.tail _ (.tail _ (.head _)), by show ¬ W.heap.size = wr.heap.size; omega⟩, fun _ h => by simp at h⟩⟩⟩))
            have R7 := Lib.hid (R6.out.set (.head _) ⟨s', Ax, kx, cx, Bx, lx, dx⟩ [(wr.heap.size, ⟨s', Ax, kx, cx, Bx, lx, dx⟩)] (List.forall_mem_cons.2 ⟨.inl rfl, fun _ h => by simp at h⟩))
            refine wpAnyH_ready (rs := [10]) (by kernel_rfl) (by simp) ?_
            refine AllReadyH.cons (List.getElem?_toArray.trans rfl) (fun K hK => ?_) AllReadyH.nil
            go_simp
            refine hK.out _ _ R7.out.2.2 (fun hHeld => ?_)
            clear hK K b0 b1 b2 b3 o0 o1 o2
            try simp only [Act.put, List.setIfInBounds_toArray, List.set_cons_zero, List.set_cons_succ]
            refine wpAnyH_take (i := 11) (v := ?_) (List.getElem?_toArray.trans rfl) (by kernel_rfl) (by kernel_rfl) (by kernel_rfl) (fun _ _ _ h => h) (Or.inl ⟨by rfl, ?_⟩) (by assumption) ?_
            rotate_left
            · intro wl hSw; go_simp; try (with_reducible rfl)
            try simp only [Act.put, List.setIfInBounds_toArray, List.set_cons_zero, List.set_cons_succ]
            obtain ⟨w9, hw9⟩ : ∃ y, y = ((w5.setCell ⟨wr.heap.size, 0, none⟩ (.bool s')).setCell ⟨wr.heap.size, 1, none⟩ (.slice Ax kx cx)).setCell ⟨wr.heap.size, 2, none⟩ (.slice Bx lx dx) := ⟨_, rfl⟩
            have V9 : Hid (BoxF W [(wr.heap.size, ⟨s', Ax, kx, cx, Bx, lx, dx⟩), (w1.heap.size, f), (W.heap.size, ⟨false, none, 0, 0, none, 0, 0⟩)] [(.slice Ax kx cx, p'), (.slice Bx lx dx, q'), (.slice f.A f.n f.c, p), (.slice f.B f.m f.d, q)] w9) := by rw [hw9]; exact V7
            have HW9 := Lib.hid hw9
            clear V7 R7 hw9 hHeld
            refine wpAnyH_done (by kernel_rfl) ?_ _
            rw [← HW9.out]
            obtain ⟨a0, a1, a2, a3⟩ := V9.out.box (.head _)
            by_cases he : e' = 0
            · subst he
              obtain ⟨b0, b1, b2, b3⟩ := V9.out.box (.tail _ (.head _))
              obtain ⟨o0, o1, o2⟩ := V9.out.open (.tail _ (.head _))
              have V8 := Lib.hid ((V9.out.set (.tail _ (.head _)) ⟨s', Ax, kx, cx, Bx, lx, dx⟩ [(w1.heap.size, ⟨s', Ax, kx, cx, Bx, lx, dx⟩), (W.heap.size, ⟨false, none, 0, 0, none, 0, 0⟩)] (List.forall_mem_cons.2 ⟨.inl rfl, List.forall_mem_cons.2 ⟨.inr ⟨.tail _ (.tail _ (.head _)), by show ¬ W.heap.size = w1.heap.size; omega⟩, fun _ h => by simp at h⟩⟩)).sub (ln' := [(.slice Ax kx cx, p'), (.slice Bx lx dx, q')]) (fun _ h => h) (List.forall_mem_cons.2 ⟨.head _, List.forall_mem_cons.2 ⟨.tail _ (.head _), fun _ h => by simp at h⟩⟩))
              go_wp2_with fail
              go_roundw
              case rel => exact ⟨j + 1, s', p', q', ⟨s', Ax, kx, cx, Bx, lx, dx⟩, by omega, by go_num, rfl, HF2, V8⟩
              case measure => simp [intOf]; omega
            · have g1 : (e' == 0) = false := by simpa using he
              have g2 : (e' != 0) = true := by simpa using he
              have HR := Lib.hid (show sumL l = (false, 0, 0, e') by rw [HE2.out, foldS_err he, HZ2.out he])
              clear he
              obtain ⟨b0, b1, b2, b3⟩ := V9.out.box (.tail _ (.tail _ (.head _)))
              obtain ⟨o0, o1, o2⟩ := V9.out.open (.tail _ (.tail _ (.head _)))
              have V8 := Lib.hid (V9.out.set (.tail _ (.tail _ (.head _))) ⟨false, none, 0, 0, none, 0, 0⟩ [(W.heap.size, ⟨false, none, 0, 0, none, 0, 0⟩)] (List.forall_mem_cons.2 ⟨.inl rfl, fun _ h => by simp at h⟩))
              obtain ⟨c0, c1, c2x, c3⟩ := V8.out.box (.head _)
              go_wp2_with fail
              refine bodyPost_ret (v := .tuple #[.agg #[.bool false, .slice none 0 0, .slice none 0 0], .int .i64 e']) ?_ rfl ?_
              · simp [results, Tryz.results8, go_sem, c0, c1, c2x]
              · rw [HR.out]
                exact ⟨none, 0, 0, none, 0, 0, rfl, num_nil _, num_nil _, V8.out.2.2⟩
        · obtain rfl : j = k := by omega
          have HR := Lib.hid (show sumL l = (f.s, p, q, 0) by rw [HSUM.out, List.drop_of_length_le (by rw [HL.out]; omega)]; rfl)
          clear HG HSUM HFO
          obtain ⟨a0, a1, a2, a3⟩ := VT.out.box (.head _)
          obtain ⟨b0, b1, b2, b3⟩ := VT.out.box (.tail _ (.head _))
          obtain ⟨o0, o1, o2⟩ := VT.out.open (.tail _ (.head _))
          have V6 := Lib.hid (VT.out.set (.tail _ (.head _)) f [(W.heap.size, f)] (List.forall_mem_cons.2 ⟨.inl rfl, fun _ h => by simp at h⟩))
          obtain ⟨c0, c1, c2x, c3⟩ := V6.out.box (.head _)
          go_wp2_with fail
          refine bodyPost_ret (v := .tuple #[.agg #[.bool f.s, .slice f.A f.n f.c, .slice f.B f.m f.d], .int .i64 0]) ?_ rfl ?_
          · simp [results, Tryz.results8, go_sem, c0, c1, c2x]
          · rw [HR.out]
            exact ⟨f.A, f.c, f.n, f.B, f.d, f.m, rfl, V6.out.at (.head _), V6.out.at (.tail _ (.head _)), V6.out.2.2⟩
end Go.Proofs.YtkfkefgkepoaaaaGreatDoor
