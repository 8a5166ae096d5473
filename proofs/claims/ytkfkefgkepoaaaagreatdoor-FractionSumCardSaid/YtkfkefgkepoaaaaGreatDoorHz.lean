/- The program's sum of a list. -/
import Derived.Test.YtkfkefgkepoaaaaGreatDoorHy
namespace Go.Proofs.YtkfkefgkepoaaaaGreatDoor
open Go.RowKit
set_option linter.unusedVariables false
set_option maxRecDepth 100000

theorem allV_step {l : List FL} {k : Nat} (h : k < l.length) (h1 : allV (l.take k) = true) (h2 : vldF l[k].s l[k].L l[k].M = true) : allV (l.take (k + 1)) = true := by
  unfold allV at *
  rw [List.take_succ_eq_append_getElem h, List.all_append, h1]
  simpa using h2
theorem allV_stop {l : List FL} {k : Nat} (h : k < l.length) (h2 : vldF l[k].s l[k].L l[k].M = false) : allV l = false := by
  unfold allV
  rw [List.all_eq_false]
  exact ⟨l[k], List.getElem_mem h, by rw [h2]; simp⟩
theorem foldS_append (r : Bool × Int × Int × Int) (a b : List FL) : foldS r (a ++ b) = foldS (foldS r a) b := by
  induction a generalizing r with
  | nil => rfl
  | cons x a ih =>
    by_cases h : r.2.2.2 = 0
    · show foldS r (x :: (a ++ b)) = _
      rw [foldS, if_pos h, ih, foldS, if_pos h]
    · rw [foldS_err h, foldS_err h, foldS_err h]
theorem allV_take {l : List FL} (h : allV l = true) (j : Nat) : allV (l.take j) = true := by
  unfold allV at *
  rw [List.all_eq_true] at *
  exact fun x hx => h x (List.take_subset _ _ hx)
set_option maxHeartbeats 4000000 in
theorem fsum_any (l : List FL) (A0 : Option Addr) (n c : Nat) (W : World) (hn : l.length = n) (hn4 : n ≤ 13) (hA : FracL W A0 l) :
    Calls Tryz.prog 6 #[.slice A0 n c] W (FrE (sumL l) W) := by
  have HL := Lib.hid hn
  have HA := Lib.hid hA
  clear hn hA
  have V0 := Lib.hid ((BoxF.start W).new false none 0 0 none 0 0)
  obtain ⟨W0, hW0⟩ : ∃ x, x = W.alloc (.cells #[.bool false, .slice none 0 0, .slice none 0 0] 32) := ⟨_, rfl⟩
  have HW0 := Lib.hid hW0
  rw [← hW0] at V0
  clear hW0
  go_enter Tryz.func6, Tryz.ntmps6
  go_upto_region 2 with fail
  rw [← HW0.out]
  go_loopw [11] (fun iv wr => ∃ k : Nat, k ≤ n ∧ iv = .int .i64 (k : Int) ∧ Hid (allV (l.take k) = true) ∧ Hid (BoxF W [(W.heap.size, ⟨false, none, 0, 0, none, 0, 0⟩)] [] wr)) (fun iv _ => n - (intOf iv).toNat)
  case atStart => exact ⟨0, Nat.zero_le _, rfl, Lib.hid rfl, V0⟩
  case round =>
    obtain ⟨k, hk, rfl, HV, VR⟩ := hrel
    by_cases hlt : k < n
    · have hlk : k < l.length := by rw [HL.out]; exact hlt
      have HAk := HA.out.below VR.out.2.2
      obtain ⟨x, hx⟩ : ∃ x, x = l[k] := ⟨_, rfl⟩
      have hxi := HAk.1 l[k] (List.getElem_mem hlk)
      obtain ⟨b, off, rfl, hbl, hcs⟩ := HAk.2 (by omega)
      obtain ⟨h0, h1, h2⟩ := hcs k l[k] (List.getElem?_eq_getElem hlk)
      rw [← hx] at hxi h0 h1 h2
      obtain ⟨⟨x1, x2, x3, x4, x5, x6⟩, x7, x8⟩ := hxi
      have HX := Lib.hid hx
      have HX1 := Lib.hid x1
      have HX2 := Lib.hid x2
      have HX7 := Lib.hid x7
      have HX8 := Lib.hid x8
      have V2 := Lib.hid (VR.out.new x.s x.A x.n x.c x.B x.m x.d)
      obtain ⟨c0, c1, c2x, c3⟩ := V2.out.box (.head _)
      clear x1 x2 x7 x8 hcs HAk hx
      cases hv : vldF x.s x.L x.M with
      | true =>
        have HVX := Lib.hid hv
        clear hv
        go_wp2_with fail
        refine (fvalid_is x.s x.L x.M x.n x.c x.m x.d x.A x.B _ HX1.out HX2.out x3 x4 (by unfold maxLen; omega) (by unfold maxLen; omega) (HX7.out.below one_new) (HX8.out.below one_new) HVX.out).mono ?_
        rintro e w3 ⟨rfl, b3⟩
        have V3 := Lib.hid ((V2.out.go b3).sub (lb' := [(W.heap.size, ⟨false, none, 0, 0, none, 0, 0⟩)]) (fun _ h => .tail _ h) (fun _ h => h))
        have HN := Lib.hid (allV_step hlk HV.out (by rw [← HX.out]; exact HVX.out))
        clear b3 c0 c1 c2x c3 h0 h1 h2
        go_wp2_with fail
        go_roundw
        case rel => exact ⟨k + 1, by omega, by go_num, HN, V3⟩
        case measure => simp [intOf]; omega
      | false =>
        have HVX := Lib.hid hv
        clear hv
        go_wp2_with fail
        refine (fvalid_is x.s x.L x.M x.n x.c x.m x.d x.A x.B _ HX1.out HX2.out x3 x4 (by unfold maxLen; omega) (by unfold maxLen; omega) (HX7.out.below one_new) (HX8.out.below one_new) HVX.out).mono ?_
        rintro e w3 ⟨rfl, b3⟩
        have V3 := Lib.hid ((V2.out.go b3).sub (lb' := [(W.heap.size, ⟨false, none, 0, 0, none, 0, 0⟩)]) (fun _ h => .tail _ h) (fun _ h => h))
        have HN := Lib.hid (show sumL l = (false, 0, 0, 1) by unfold sumL; rw [allV_stop hlk (by rw [← HX.out]; exact HVX.out)]; rfl)
        clear b3 c0 c1 c2x c3 h0 h1 h2
        have V4 := Lib.hid (V3.out.set (.head _) ⟨false, none, 0, 0, none, 0, 0⟩ [(W.heap.size, ⟨false, none, 0, 0, none, 0, 0⟩)] (List.forall_mem_cons.2 ⟨.inl rfl, fun _ h => by simp at h⟩))
        obtain ⟨a0, a1, a2, a3⟩ := V3.out.box (.head _)
        obtain ⟨o0, o1, o2⟩ := V3.out.open (.head _)
        obtain ⟨c0, c1, c2x, c3⟩ := V4.out.box (.head _)
        go_wp2_with fail
        refine bodyPost_ret (v := .tuple #[.agg #[.bool false, .slice none 0 0, .slice none 0 0], .int .i64 1]) ?_ rfl ?_
        · simp [results, Tryz.results6, go_sem, c0, c1, c2x]
        · rw [HN.out]
          exact ⟨none, 0, 0, none, 0, 0, rfl, num_nil _, num_nil _, V4.out.2.2⟩
    · obtain rfl : k = n := by omega
      rw [List.take_of_length_le (by rw [HL.out]; exact Nat.le_refl _)] at HV
      clear hlt hk
      have hof : ofR 0 1 = (false, 0, 1, 0) := by decide
      have HOF := Lib.hid (fun w => show Calls Tryz.prog 12 #[.int .i64 0, .int .i64 1] w (FrE (false, 0, 1, 0) w) by rw [← hof]; exact fof3_any 0 1 w)
      clear hof
      go_wp2_with fail
      refine (HOF.out _).mono ?_
      rintro e w1 ⟨Ay, cy, ky, Az, cz, kz, rfl, n1, m1, e1⟩
      have U1 := Lib.hid (((VR.out.go e1).num m1).num n1)
      clear n1 m1 e1
      have V1 := Lib.hid (U1.out.new false Ay ky cy Az kz cz)
      obtain ⟨w2, hw2⟩ : ∃ y, y = w1.alloc (.cells #[.bool false, .slice Ay ky cy, .slice Az kz cz] 32) := ⟨_, rfl⟩
      rw [← hw2] at V1
      have HW2 := Lib.hid hw2
      clear hw2
      go_upto_region 9 with fail
      rw [← HW2.out]
      go_loopw [7, 8] (fun ev iv wr => ∃ (j : Nat) (s : Bool) (p q er : Int) (f : FB), j ≤ k ∧ ev = .int .i64 er ∧ iv = .int .i64 (j : Int) ∧ f.s = s ∧ Hid (foldS (false, 0, 1, 0) (l.take j) = (s, p, q, er)) ∧ Hid (BoxF W [(w1.heap.size, f), (W.heap.size, ⟨false, none, 0, 0, none, 0, 0⟩)] [(.slice f.A f.n f.c, p), (.slice f.B f.m f.d, q)] wr)) (fun _ iv _ => k - (intOf iv).toNat)
      case atStart => exact ⟨0, false, 0, 1, 0, ⟨false, Ay, ky, cy, Az, kz, cz⟩, Nat.zero_le _, rfl, rfl, rfl, Lib.hid rfl, V1⟩
      case round =>
        have hWw := (U1.out.lt (.head _)).2
        obtain ⟨j, s, p, q, er, f, hj, rfl, rfl, hs, HFO, VT⟩ := hrel
        subst hs
        have hsum : foldS (false, 0, 1, 0) l = foldS (f.s, p, q, er) (l.drop j) := by rw [← HFO.out, ← foldS_append, List.take_append_drop]
        have hval : sumL l = foldS (false, 0, 1, 0) l := by unfold sumL; rw [if_pos HV.out]
        have HG := Lib.hid (show GoodF (f.s, p, q, er) by rw [← HFO.out]; exact foldS_good (allV_take HV.out j) zero_good)
        have HSUM := Lib.hid (hval.trans hsum)
        clear hsum hval
        by_cases hlt : j < k
        · by_cases he : er = 0
          · subst he
            have hlk : j < l.length := by rw [HL.out]; exact hlt
            have HAk := HA.out.below VT.out.2.2
            have hvx : vldF l[j].s l[j].L l[j].M = true := by have h := HV.out; unfold allV at h; rw [List.all_eq_true] at h; exact h _ (List.getElem_mem hlk)
            obtain ⟨x, hx⟩ : ∃ x, x = l[j] := ⟨_, rfl⟩
            have hxi := HAk.1 l[j] (List.getElem_mem hlk)
            obtain ⟨b, off, rfl, hbl, hcs⟩ := HAk.2 (by omega)
            obtain ⟨h0, h1, h2⟩ := hcs j l[j] (List.getElem?_eq_getElem hlk)
            rw [← hx] at hxi h0 h1 h2 hvx
            obtain ⟨⟨x1, x2, x3, x4, x5, x6⟩, x7, x8⟩ := hxi
            obtain ⟨y1, y2, y3, y4, y5⟩ := vldF_pos hvx
            have N1 := Lib.hid (num_mk x1 x3 (by unfold maxLen; omega) x7 y1)
            have N2 := Lib.hid (num_mk x2 x4 (by unfold maxLen; omega) x8 y2)
            obtain ⟨g1, g2, g3, g4⟩ := HG.out rfl
            obtain ⟨⟨s', p', q', e'⟩, hr⟩ : ∃ r, r = sumR f.s x.s p q (val x.L) (val x.M) := ⟨_, rfl⟩
            have HS := Lib.hid (fun w hp hq hr' ht => show Calls Tryz.prog 19 #[.agg #[.bool f.s, .slice f.A f.n f.c, .slice f.B f.m f.d], .agg #[.bool x.s, .slice x.A x.n x.c, .slice x.B x.m x.d]] w (FrE (s', p', q', e') w) by rw [hr]; exact sum3_any f.s x.s f.n f.c f.m f.d x.n x.c x.m x.d p q (val x.L) (val x.M) f.A f.B x.A x.B w hp hq hr' ht g2 y3)
            have HF2 := Lib.hid (show foldS (false, 0, 1, 0) (l.take (j + 1)) = (s', p', q', e') by rw [List.take_succ_eq_append_getElem hlk, foldS_snoc, HFO.out, if_pos rfl, hr, hx])
            obtain ⟨a0, a1, a2, a3⟩ := VT.out.box (.head _)
            have D1 := (VT.out.lt (.head _)).2
            clear x1 x2 x7 x8 hcs HAk y1 y2 y4 y5 hr hx hvx g1 g3 g4
            have g0 : ((0 : Int) == 0) = true := rfl
            go_upto_region 11 with fail
            have VD := Lib.hid (VT.out.go (w' := wr.drew) (Below.refl _ _).drew)
            go_region_with ((go_at_call 19; refine (HS.out _ ?_ ?_ ?_ ?_).mono ?_; exact VD.out.at (.head _); exact VD.out.at (.tail _ (.head _)); exact N1.out.below (Below.refl _ _).drew; exact N2.out.below (Below.refl _ _).drew; rintro e w5 ⟨Ax, cx, kx, Bx, dx, lx, rfl, nx, mx, bx⟩; have V5 := Lib.hid (((VD.out.go bx).num mx).num nx); have V6 := Lib.hid (V5.out.set (.head _) ⟨s', Ax, kx, cx, Bx, lx, dx⟩ [(w1.heap.size, ⟨s', Ax, kx, cx, Bx, lx, dx⟩), (W.heap.size, ⟨false, none, 0, 0, none, 0, 0⟩)] (List.forall_mem_cons.2 ⟨.inl rfl, List.forall_mem_cons.2 ⟨.inr ⟨(.tail _ (.head _)), by show ¬ W.heap.size = w1.heap.size; omega⟩, fun _ h => by simp at h⟩⟩)); clear nx mx bx; obtain ⟨b0, b1, b2, b3⟩ := V5.out.box (.head _); obtain ⟨o0, o1, o2⟩ := V5.out.open (.head _)))
            all_goals
              go_wp2_with fail
              go_roundw
            all_goals first
              | exact ⟨j + 1, s', p', q', e', ⟨s', Ax, kx, cx, Bx, lx, dx⟩, by omega, rfl, by go_num, rfl, HF2, Lib.hid (V6.out.sub (fun _ h => h) (fun _ h => by rcases List.mem_cons.1 h with rfl | h; exact .head _; rcases List.mem_cons.1 h with rfl | h; exact .tail _ (.head _); simp at h))⟩
              | (simp [intOf]; omega)
          · have g0 : (er == 0) = false := by simpa using he
            have HR := Lib.hid (show sumL l = (f.s, p, q, er) by rw [HSUM.out, foldS_err he])
            clear HG HSUM HFO
            obtain ⟨a0, a1, a2, a3⟩ := VT.out.box (.head _)
            obtain ⟨b0, b1, b2, b3⟩ := VT.out.box (.tail _ (.head _))
            obtain ⟨o0, o1, o2⟩ := VT.out.open (.tail _ (.head _))
            have V6 := Lib.hid (VT.out.set (.tail _ (.head _)) f [(W.heap.size, f)] (List.forall_mem_cons.2 ⟨.inl rfl, fun _ h => by simp at h⟩))
            obtain ⟨c0, c1, c2x, c3⟩ := V6.out.box (.head _)
            go_wp2_with fail
            refine bodyPost_ret (v := .tuple #[.agg #[.bool f.s, .slice f.A f.n f.c, .slice f.B f.m f.d], .int .i64 er]) ?_ rfl ?_
            · simp [results, Tryz.results6, go_sem, c0, c1, c2x]
            · rw [HR.out]
              exact ⟨f.A, f.c, f.n, f.B, f.d, f.m, rfl, V6.out.at (.head _), V6.out.at (.tail _ (.head _)), V6.out.2.2⟩
        · obtain rfl : j = k := by omega
          have HR := Lib.hid (show sumL l = (f.s, p, q, er) by rw [HSUM.out, List.drop_of_length_le (by rw [HL.out]; omega)]; rfl)
          clear HG HSUM HFO
          obtain ⟨a0, a1, a2, a3⟩ := VT.out.box (.head _)
          obtain ⟨b0, b1, b2, b3⟩ := VT.out.box (.tail _ (.head _))
          obtain ⟨o0, o1, o2⟩ := VT.out.open (.tail _ (.head _))
          have V6 := Lib.hid (VT.out.set (.tail _ (.head _)) f [(W.heap.size, f)] (List.forall_mem_cons.2 ⟨.inl rfl, fun _ h => by simp at h⟩))
          obtain ⟨c0, c1, c2x, c3⟩ := V6.out.box (.head _)
          go_wp2_with fail
          refine bodyPost_ret (v := .tuple #[.agg #[.bool f.s, .slice f.A f.n f.c, .slice f.B f.m f.d], .int .i64 er]) ?_ rfl ?_
          · simp [results, Tryz.results6, go_sem, c0, c1, c2x]
          · rw [HR.out]
            exact ⟨f.A, f.c, f.n, f.B, f.d, f.m, rfl, V6.out.at (.head _), V6.out.at (.tail _ (.head _)), V6.out.2.2⟩
end Go.Proofs.YtkfkefgkepoaaaaGreatDoor
