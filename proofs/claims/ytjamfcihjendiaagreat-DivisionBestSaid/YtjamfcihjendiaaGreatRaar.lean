/- Several texts in one: Ox. -/
import Derived.Test.YtjamfcihjendiaaGreatRaaq
import Derived.Test.YtjamfcihjendiaaGreatRaai
import Derived.Test.YtjamfcihjendiaaGreatRaal
namespace Go.Proofs.YtjamfcihjendiaaGreat
open Go.RowKit
set_option linter.unusedVariables false
set_option linter.unusedSimpArgs false
set_option maxRecDepth 100000

theorem eq_same (a b : List Snd) : eqB a b = sameL a b := by rw [Bool.eq_iff_iff, eqB_is, sameL_is]
set_option maxHeartbeats 4000000 in
theorem rfirst_any (nm : List UInt8) (L : List Sg) (A : Option Addr) (n c : Nat) (w : World) (hnm : nm.length ≤ 140737488355328) (hl : L.length = n) (hn : n ≤ 17592186044416) (hs : SgBd L) (hA : SgnIn w A L) :
    Calls Tryz.prog 54 #[.agg #[.string (bs nm), .slice A n c]] w fun e w' => e = .returned (.tuple #[.int .i64 (vO nm L).1, .int .i64 (vO nm L).2]) ∧ Below w.heap.size w w' := by
  obtain ⟨g1, hg1⟩ : ∃ z, z = w.heap.size := ⟨_, rfl⟩
  obtain ⟨W1, hW1⟩ : ∃ z, z = w.alloc (.cells #[.string (bs nm), .slice A n c] 24) := ⟨_, rfl⟩
  have V1 := Lib.hid (show Hp w [obox g1 nm A n c] W1 by rw [hW1, hg1]; exact (Hp.start w).obox_new nm A n c)
  have HW1 := Lib.hid hW1
  have HG1 := Lib.hid hg1
  have HA := Lib.hid hA
  have HS := Lib.hid hs
  have HL := Lib.hid hl
  have HNM := Lib.hid (show (bs nm).size ≤ maxLen by rw [bs_size]; unfold maxLen; omega)
  obtain ⟨x0, x1, x2⟩ := V1.out.obox_at (i := 0) rfl
  clear hW1 hg1 hA hs hl hnm
  go_enter Tryz.func54, Tryz.ntmps54
  go_upto_region 1 with fail
  rw [← HG1.out, ← HW1.out]
  go_wp2_with fail
  refine (K.risname_any (bs nm) _ HNM.out).mono ?_
  rintro e w2 ⟨rfl, hw⟩
  subst hw
  rw [bs_list]
  cases hname : K.nameB nm with
  | false =>
    have HE := Lib.hid (vO_name (L := L) hname)
    clear hname
    go_wp2_with fail
    go_ret2
    exact ⟨by rw [HE.out]; rfl, V1.out.below⟩
  | true =>
  by_cases h0 : n = 0
  · have HE := Lib.hid (vO_empty (L := L) hname (by have := HL.out; omega))
    have e0 : ((n : Int) == 0) = true := by simp [h0]
    clear hname h0
    go_wp2_with fail
    go_ret2
    exact ⟨by rw [HE.out]; rfl, V1.out.below⟩
  have e0 : ((n : Int) == 0) = false := by simp [h0]
  by_cases h120 : 120 < n
  · have HE := Lib.hid (vO_big (L := L) hname (by have := HL.out; omega))
    clear hname h0
    go_wp2_with fail
    go_ret2
    exact ⟨by rw [HE.out]; rfl, V1.out.below⟩
  have HV := Lib.hid (vO_is (L := L) hname (by have := HL.out; omega) (by have := HL.out; omega))
  clear hname h0
  go_wp2_with fail
  go_loopw [4] (fun i wr => ∃ k : Nat, k ≤ n ∧ i = .int .i64 (k : Int) ∧ FInv L k ∧ Hp w [obox g1 nm A n c] wr) (fun i _ => n - (intOf i).toNat)
  case atStart => exact ⟨0, Nat.zero_le _, rfl, FInv.start L, V1.out⟩
  case round =>
    obtain ⟨k, hk, rfl, hinv, hV⟩ := hrel
    obtain ⟨wi, rfl⟩ : ∃ wi : World, wi = wr := ⟨_, rfl⟩
    have HI := Lib.hid hinv
    have V2 := Lib.hid hV
    clear hinv hV x0 x1 x2 V1
    by_cases hlt : k < n
    · obtain ⟨x, hx⟩ := get_at (L := L) (k := k) (by have := HL.out; omega)
      obtain ⟨b, off, Aj, cj, hAe, hb, c0, c1, c2, c3, c4⟩ := (HA.out.below V2.out.below).at hx
      have HX := Lib.hid hx
      have HC := Lib.hid c4
      have HAE := Lib.hid hAe
      obtain ⟨hb1, hb2, hb3⟩ := HS.out x (List.mem_of_getElem? hx)
      have HB3 := Lib.hid hb3
      obtain ⟨x0, x1, x2⟩ := V2.out.obox_at (i := 0) rfl
      rw [hAe] at x1
      have hk4 : k * 4 ≤ 480 := by omega
      subst hAe
      clear hx c4 hb3
      go_wp2_with fail
      refine (rsign_any x Aj cj _ hb1 (by omega) HB3.out HC.out).mono ?_
      rintro e w4 ⟨rfl, hb4⟩
      have V3 := Lib.hid (V2.out.go hb4)
      clear hb4 x0 x1 x2 c0 c1 c2 c3 hb
      obtain ⟨x0, x1, x2⟩ := V3.out.obox_at (i := 0) rfl
      by_cases hv : sgE x = 0
      · rw [hv]
        have HV0 := Lib.hid hv
        clear hv
        go_wp2_with fail
        clear x0 x1 x2
        go_loopw [6] (fun i wr => ∃ q : Nat, q ≤ k ∧ i = .int .i64 (q : Int) ∧ ((L.take q).any fun e => likeB e x) = false ∧ Hp w [obox g1 nm (some ⟨b, off, none⟩) n c] wr) (fun i _ => k - (intOf i).toNat)
        case atStart => exact ⟨0, Nat.zero_le _, rfl, rfl, V3.out⟩
        case round =>
          obtain ⟨q, hq, rfl, hany, hV⟩ := hrel
          obtain ⟨wj, rfl⟩ : ∃ wi : World, wi = wr := ⟨_, rfl⟩
          have HANY := Lib.hid hany
          have V4 := Lib.hid hV
          clear hany hV V3
          obtain ⟨x0, x1, x2⟩ := V4.out.obox_at (i := 0) rfl
          by_cases hqk : q < k
          · obtain ⟨y, hy⟩ := get_at (L := L) (k := q) (by have := HL.out; omega)
            obtain ⟨b2, off2, Bj, dj, he2, hb, d0, d1, d2, d3, d4⟩ := (HA.out.below V4.out.below).at hy
            obtain ⟨b3, off3, Aj', cj', he3, _, c0, c1, c2, c3, c4⟩ := (HA.out.below V4.out.below).at HX.out
            injection he2 with he2
            injection he2 with e1 e2
            subst e1; subst e2
            injection he3 with he3
            injection he3 with e1 e2
            subst e1; subst e2
            have HYq := Lib.hid hy
            obtain ⟨yb1, yb2, yb3⟩ := HS.out y (List.mem_of_getElem? hy)
            have HD := Lib.hid d4
            have HC2 := Lib.hid c4
            have hq4 : q * 4 ≤ 480 := by omega
            have hqn : (q : Int) < (n : Int) := by omega
            have hqn' : q < n := by omega
            clear hy d4 c4 yb3
            go_upto_region 16 with fail
            go_cut [7, 8] (fun p7 p8 wx => ∃ g7 g8 : Nat, p7 = .pointer (some ⟨g7, 0, none⟩) ∧ p8 = .pointer (some ⟨g8, 0, none⟩) ∧ Hp w [sgbox g7 (Aj', cj') x, sgbox g8 (Bj, dj) y, obox g1 nm (some ⟨b, off, none⟩) n c] wx ∧ Below wj.heap.size wj wx)
            case first =>
              have hKp : Keep [(⟨g1, 0, none⟩, .string (bs nm)), (⟨g1, 1, none⟩, .slice (some ⟨b, off, none⟩) n c), (⟨b, off + k * 4, none⟩, .string (bs x.t)), (⟨b, off + k * 4 + 1, none⟩, .slice Aj' x.s.length cj'), (⟨b, off + k * 4 + 2, none⟩, .int .i64 x.c), (⟨b, off + k * 4 + 3, none⟩, .int .i64 x.w), (⟨b, off + q * 4, none⟩, .string (bs y.t)), (⟨b, off + q * 4 + 1, none⟩, .slice Bj y.s.length dj), (⟨b, off + q * 4 + 2, none⟩, .int .i64 y.c), (⟨b, off + q * 4 + 3, none⟩, .int .i64 y.w)] wj := List.forall_mem_cons.2 ⟨⟨x0, x2⟩, List.forall_mem_cons.2 ⟨⟨x1, x2⟩, List.forall_mem_cons.2 ⟨⟨c0, hb⟩, List.forall_mem_cons.2 ⟨⟨c1, hb⟩, List.forall_mem_cons.2 ⟨⟨c2, hb⟩, List.forall_mem_cons.2 ⟨⟨c3, hb⟩, List.forall_mem_cons.2 ⟨⟨d0, hb⟩, List.forall_mem_cons.2 ⟨⟨d1, hb⟩, List.forall_mem_cons.2 ⟨⟨d2, hb⟩, List.forall_mem_cons.2 ⟨⟨d3, hb⟩, fun _ h => by simp at h⟩⟩⟩⟩⟩⟩⟩⟩⟩⟩
              clear x0 x1 c0 c1 c2 c3 d0 d1 d2 d3
              refine wp_region_held_drew (S := Keep _) (by kernel_rfl) hKp.drew (fun hHeld => ?_)
              obtain ⟨wd, hwd⟩ : ∃ z, z = wj.drew := ⟨_, rfl⟩
              have V4d := Lib.hid (show Hp w [obox g1 nm (some ⟨b, off, none⟩) n c] wd by rw [hwd]; exact V4.out.go (bdrew _))
              have Twd := Lib.hid (show Below wj.heap.size wj wd by rw [hwd]; exact bdrew _)
              rw [← hwd] at hHeld ⊢
              clear hwd
              refine tk 0 ?_ rfl ?_ ?_; rotate_left; focus (intro w hSw; clear hSw; go_simp; try (with_reducible rfl))
              try simp only [Act.put, sA, sZ, sS]
              refine tk 1 ?_ rfl ?_ ?_; rotate_left
              · intro wl hSw
                have hSw : Keep _ wl := hSw
                have k0 := (hSw _ (.head _)).1
                have k1 := (hSw _ (.tail _ (.head _))).1
                dsimp only at k0 k1
                clear hSw
                go_simp
                try (with_reducible rfl)
              try simp only [Act.put, sA, sZ, sS]
              refine tk 2 ?_ rfl ?_ ?_; rotate_left; focus (intro w hSw; clear hSw; go_simp; try (with_reducible rfl))
              try simp only [Act.put, sA, sZ, sS]
              refine tk 3 ?_ rfl ?_ ?_; rotate_left; focus (intro w hSw; clear hSw; go_simp; try (with_reducible rfl))
              try simp only [Act.put, sA, sZ, sS]
              refine tk 4 ?_ rfl ?_ ?_; rotate_left
              · intro wl hSw
                have hSw : Keep _ wl := hSw
                have k0 := (hSw _ (.tail _ (.tail _ (.head _)))).1
                have k1 := (hSw _ (.tail _ (.tail _ (.tail _ (.head _))))).1
                have k2 := (hSw _ (.tail _ (.tail _ (.tail _ (.tail _ (.head _)))))).1
                have k3 := (hSw _ (.tail _ (.tail _ (.tail _ (.tail _ (.tail _ (.head _))))))).1
                dsimp only at k0 k1 k2 k3
                clear hSw
                go_simp
                try (with_reducible rfl)
              try simp only [Act.put, sA, sZ, sS]
              refine tk 5 ?_ rfl ?_ ?_; rotate_left; focus (intro w hSw; clear hSw; go_simp; try (with_reducible rfl))
              try simp only [Act.put, sA, sZ, sS]
              refine tk 6 ?_ rfl ?_ ?_; rotate_left
              · intro wl hSw
                have hSw : Keep _ wl := hSw
                have k0 := (hSw _ (.head _)).1
                have k1 := (hSw _ (.tail _ (.head _))).1
                dsimp only at k0 k1
                clear hSw
                go_simp
                try (with_reducible rfl)
              try simp only [Act.put, sA, sZ, sS]
              refine tk 7 ?_ rfl ?_ ?_; rotate_left; focus (intro w hSw; clear hSw; go_simp; try (with_reducible rfl))
              try simp only [Act.put, sA, sZ, sS]
              refine tk 8 ?_ rfl ?_ ?_; rotate_left; focus (intro w hSw; clear hSw; go_simp; try (with_reducible rfl))
              try simp only [Act.put, sA, sZ, sS]
              refine tk 9 ?_ rfl ?_ ?_; rotate_left
              · intro wl hSw
                have hSw : Keep _ wl := hSw
                have k0 := (hSw _ (.tail _ (.tail _ (.tail _ (.tail _ (.tail _ (.tail _ (.head _)))))))).1
                have k1 := (hSw _ (.tail _ (.tail _ (.tail _ (.tail _ (.tail _ (.tail _ (.tail _ (.head _))))))))).1
                have k2 := (hSw _ (.tail _ (.tail _ (.tail _ (.tail _ (.tail _ (.tail _ (.tail _ (.tail _ (.head _)))))))))).1
                have k3 := (hSw _ (.tail _ (.tail _ (.tail _ (.tail _ (.tail _ (.tail _ (.tail _ (.tail _ (.tail _ (.head _))))))))))).1
                dsimp only at k0 k1 k2 k3
                clear hSw
                go_simp
                try (with_reducible rfl)
              try simp only [Act.put, sA, sZ, sS]
              refine wpAnyH_ready (rs := [10, 11]) (by kernel_rfl) (by simp) ?_
              refine AllReadyH.cons (List.getElem?_toArray.trans rfl) (fun K hK => ?_) ?_
              · obtain ⟨g7, hg7⟩ : ∃ z, z = wd.heap.size := ⟨_, rfl⟩
                obtain ⟨u1, hu1⟩ : ∃ z, z = wd.alloc (.cells #[.string ⟨#[]⟩, .slice none 0 0, .int .i64 0, .int .i64 0] 64) := ⟨_, rfl⟩
                have Vu1 := Lib.hid (show Hp w [sgbox g7 (none, 0) zSg, obox g1 nm (some ⟨b, off, none⟩) n c] u1 by rw [hu1, hg7]; exact V4d.out.sgbox_new none 0 zSg)
                have Bu1 := Lib.hid (show Below wd.heap.size wd u1 by rw [hu1]; exact bnew _ _)
                have Tu1 := Lib.hid (show Below wj.heap.size wj u1 from btwo Twd.out Bu1.out)
                have lg7 : wj.heap.size ≤ g7 := by rw [hg7]; exact Twd.out.size
                go_simp
                rw [← hu1, ← hg7]
                clear hu1 hg7
                refine hK.out _ _ (hHeld.go Bu1.out) (fun hHeld => ?_)
                clear hK K
                try simp only [Act.put, sA, sZ, sS]
                refine wpAnyH_ready (rs := [11]) (by kernel_rfl) (by simp) ?_
                refine AllReadyH.cons (List.getElem?_toArray.trans rfl) (fun K hK => ?_) AllReadyH.nil
                obtain ⟨g8, hg8⟩ : ∃ z, z = u1.heap.size := ⟨_, rfl⟩
                obtain ⟨u2, hu2⟩ : ∃ z, z = u1.alloc (.cells #[.string ⟨#[]⟩, .slice none 0 0, .int .i64 0, .int .i64 0] 64) := ⟨_, rfl⟩
                have Vu2 := Lib.hid (show Hp w [sgbox g8 (none, 0) zSg, sgbox g7 (none, 0) zSg, obox g1 nm (some ⟨b, off, none⟩) n c] u2 by rw [hu2, hg8]; exact Vu1.out.sgbox_new none 0 zSg)
                have Bu2 := Lib.hid (show Below u1.heap.size u1 u2 by rw [hu2]; exact bnew _ _)
                have Tu2 := Lib.hid (show Below wj.heap.size wj u2 from btwo Tu1.out Bu2.out)
                have lg8 : wj.heap.size ≤ g8 := by rw [hg8]; exact Tu1.out.size
                go_simp
                rw [← hu2, ← hg8]
                clear hu2 hg8
                refine hK.out _ _ (hHeld.go Bu2.out) (fun hHeld => ?_)
                clear hK K
                try simp only [Act.put, sA, sZ, sS]
                refine wpAnyH_ready (rs := [12]) (by kernel_rfl) (by simp) ?_
                refine AllReadyH.cons (List.getElem?_toArray.trans rfl) (fun K hK => ?_) AllReadyH.nil
                obtain ⟨⟨k0, k1, k2, k3⟩, ⟨f0, f1, f2, f3⟩, k4⟩ := Vu2.out.sgbox_all (i := 1) rfl
                dsimp only [zSg, List.length_nil] at k0 k1 k2 k3
                obtain ⟨u3, hu3⟩ : ∃ z, z = (((u2.setCell ⟨g7, 0, none⟩ (.string (bs x.t))).setCell ⟨g7, 1, none⟩ (.slice Aj' x.s.length cj')).setCell ⟨g7, 2, none⟩ (.int .i64 x.c)).setCell ⟨g7, 3, none⟩ (.int .i64 x.w) := ⟨_, rfl⟩
                have Vu3 := Lib.hid (show Hp w [sgbox g8 (none, 0) zSg, sgbox g7 (Aj', cj') x, obox g1 nm (some ⟨b, off, none⟩) n c] u3 by rw [hu3]; exact Vu2.out.sgbox_put (i := 1) rfl Aj' cj' x)
                have hKn : Keep [(⟨g1, 0, none⟩, .string (bs nm)), (⟨g1, 1, none⟩, .slice (some ⟨b, off, none⟩) n c), (⟨b, off + k * 4, none⟩, .string (bs x.t)), (⟨b, off + k * 4 + 1, none⟩, .slice Aj' x.s.length cj'), (⟨b, off + k * 4 + 2, none⟩, .int .i64 x.c), (⟨b, off + k * 4 + 3, none⟩, .int .i64 x.w), (⟨b, off + q * 4, none⟩, .string (bs y.t)), (⟨b, off + q * 4 + 1, none⟩, .slice Bj y.s.length dj), (⟨b, off + q * 4 + 2, none⟩, .int .i64 y.c), (⟨b, off + q * 4 + 3, none⟩, .int .i64 y.w)] u3 := by
                  rw [hu3]
                  exact (((hHeld.set _ _ _ (List.forall_mem_cons.2 ⟨(by show ¬ g1 = g7; omega), List.forall_mem_cons.2 ⟨(by show ¬ g1 = g7; omega), List.forall_mem_cons.2 ⟨(by show ¬ b = g7; omega), List.forall_mem_cons.2 ⟨(by show ¬ b = g7; omega), List.forall_mem_cons.2 ⟨(by show ¬ b = g7; omega), List.forall_mem_cons.2 ⟨(by show ¬ b = g7; omega), List.forall_mem_cons.2 ⟨(by show ¬ b = g7; omega), List.forall_mem_cons.2 ⟨(by show ¬ b = g7; omega), List.forall_mem_cons.2 ⟨(by show ¬ b = g7; omega), List.forall_mem_cons.2 ⟨(by show ¬ b = g7; omega), fun _ h => by simp at h⟩⟩⟩⟩⟩⟩⟩⟩⟩⟩)).set _ _ _ (List.forall_mem_cons.2 ⟨(by show ¬ g1 = g7; omega), List.forall_mem_cons.2 ⟨(by show ¬ g1 = g7; omega), List.forall_mem_cons.2 ⟨(by show ¬ b = g7; omega), List.forall_mem_cons.2 ⟨(by show ¬ b = g7; omega), List.forall_mem_cons.2 ⟨(by show ¬ b = g7; omega), List.forall_mem_cons.2 ⟨(by show ¬ b = g7; omega), List.forall_mem_cons.2 ⟨(by show ¬ b = g7; omega), List.forall_mem_cons.2 ⟨(by show ¬ b = g7; omega), List.forall_mem_cons.2 ⟨(by show ¬ b = g7; omega), List.forall_mem_cons.2 ⟨(by show ¬ b = g7; omega), fun _ h => by simp at h⟩⟩⟩⟩⟩⟩⟩⟩⟩⟩)).set _ _ _ (List.forall_mem_cons.2 ⟨(by show ¬ g1 = g7; omega), List.forall_mem_cons.2 ⟨(by show ¬ g1 = g7; omega), List.forall_mem_cons.2 ⟨(by show ¬ b = g7; omega), List.forall_mem_cons.2 ⟨(by show ¬ b = g7; omega), List.forall_mem_cons.2 ⟨(by show ¬ b = g7; omega), List.forall_mem_cons.2 ⟨(by show ¬ b = g7; omega), List.forall_mem_cons.2 ⟨(by show ¬ b = g7; omega), List.forall_mem_cons.2 ⟨(by show ¬ b = g7; omega), List.forall_mem_cons.2 ⟨(by show ¬ b = g7; omega), List.forall_mem_cons.2 ⟨(by show ¬ b = g7; omega), fun _ h => by simp at h⟩⟩⟩⟩⟩⟩⟩⟩⟩⟩)).set _ _ _ (List.forall_mem_cons.2 ⟨(by show ¬ g1 = g7; omega), List.forall_mem_cons.2 ⟨(by show ¬ g1 = g7; omega), List.forall_mem_cons.2 ⟨(by show ¬ b = g7; omega), List.forall_mem_cons.2 ⟨(by show ¬ b = g7; omega), List.forall_mem_cons.2 ⟨(by show ¬ b = g7; omega), List.forall_mem_cons.2 ⟨(by show ¬ b = g7; omega), List.forall_mem_cons.2 ⟨(by show ¬ b = g7; omega), List.forall_mem_cons.2 ⟨(by show ¬ b = g7; omega), List.forall_mem_cons.2 ⟨(by show ¬ b = g7; omega), List.forall_mem_cons.2 ⟨(by show ¬ b = g7; omega), fun _ h => by simp at h⟩⟩⟩⟩⟩⟩⟩⟩⟩⟩)
                have Tu3 := Lib.hid (show Below wj.heap.size wj u3 by rw [hu3]; exact (((Tu2.out.setCell (p := ⟨g7, 0, none⟩) lg7 _).setCell (p := ⟨g7, 1, none⟩) lg7 _).setCell (p := ⟨g7, 2, none⟩) lg7 _).setCell (p := ⟨g7, 3, none⟩) lg7 _)
                go_simp
                rw [← hu3]
                clear hu3 k0 k1 k2 k3 f0 f1 f2 f3 k4
                refine hK.out _ _ hKn (fun hHeld => ?_)
                clear hK K
                try simp only [Act.put, sA, sZ, sS]
                refine wpAnyH_ready (rs := [13]) (by kernel_rfl) (by simp) ?_
                refine AllReadyH.cons (List.getElem?_toArray.trans rfl) (fun K hK => ?_) AllReadyH.nil
                obtain ⟨⟨k0, k1, k2, k3⟩, ⟨f0, f1, f2, f3⟩, k4⟩ := Vu3.out.sgbox_all (i := 0) rfl
                dsimp only [zSg, List.length_nil] at k0 k1 k2 k3
                obtain ⟨u4, hu4⟩ : ∃ z, z = (((u3.setCell ⟨g8, 0, none⟩ (.string (bs y.t))).setCell ⟨g8, 1, none⟩ (.slice Bj y.s.length dj)).setCell ⟨g8, 2, none⟩ (.int .i64 y.c)).setCell ⟨g8, 3, none⟩ (.int .i64 y.w) := ⟨_, rfl⟩
                have Vu4 := Lib.hid (show Hp w [sgbox g8 (Bj, dj) y, sgbox g7 (Aj', cj') x, obox g1 nm (some ⟨b, off, none⟩) n c] u4 by rw [hu4]; exact Vu3.out.sgbox_put (i := 0) rfl Bj dj y)
                have hKn : Keep [(⟨g1, 0, none⟩, .string (bs nm)), (⟨g1, 1, none⟩, .slice (some ⟨b, off, none⟩) n c), (⟨b, off + k * 4, none⟩, .string (bs x.t)), (⟨b, off + k * 4 + 1, none⟩, .slice Aj' x.s.length cj'), (⟨b, off + k * 4 + 2, none⟩, .int .i64 x.c), (⟨b, off + k * 4 + 3, none⟩, .int .i64 x.w), (⟨b, off + q * 4, none⟩, .string (bs y.t)), (⟨b, off + q * 4 + 1, none⟩, .slice Bj y.s.length dj), (⟨b, off + q * 4 + 2, none⟩, .int .i64 y.c), (⟨b, off + q * 4 + 3, none⟩, .int .i64 y.w)] u4 := by
                  rw [hu4]
                  exact (((hHeld.set _ _ _ (List.forall_mem_cons.2 ⟨(by show ¬ g1 = g8; omega), List.forall_mem_cons.2 ⟨(by show ¬ g1 = g8; omega), List.forall_mem_cons.2 ⟨(by show ¬ b = g8; omega), List.forall_mem_cons.2 ⟨(by show ¬ b = g8; omega), List.forall_mem_cons.2 ⟨(by show ¬ b = g8; omega), List.forall_mem_cons.2 ⟨(by show ¬ b = g8; omega), List.forall_mem_cons.2 ⟨(by show ¬ b = g8; omega), List.forall_mem_cons.2 ⟨(by show ¬ b = g8; omega), List.forall_mem_cons.2 ⟨(by show ¬ b = g8; omega), List.forall_mem_cons.2 ⟨(by show ¬ b = g8; omega), fun _ h => by simp at h⟩⟩⟩⟩⟩⟩⟩⟩⟩⟩)).set _ _ _ (List.forall_mem_cons.2 ⟨(by show ¬ g1 = g8; omega), List.forall_mem_cons.2 ⟨(by show ¬ g1 = g8; omega), List.forall_mem_cons.2 ⟨(by show ¬ b = g8; omega), List.forall_mem_cons.2 ⟨(by show ¬ b = g8; omega), List.forall_mem_cons.2 ⟨(by show ¬ b = g8; omega), List.forall_mem_cons.2 ⟨(by show ¬ b = g8; omega), List.forall_mem_cons.2 ⟨(by show ¬ b = g8; omega), List.forall_mem_cons.2 ⟨(by show ¬ b = g8; omega), List.forall_mem_cons.2 ⟨(by show ¬ b = g8; omega), List.forall_mem_cons.2 ⟨(by show ¬ b = g8; omega), fun _ h => by simp at h⟩⟩⟩⟩⟩⟩⟩⟩⟩⟩)).set _ _ _ (List.forall_mem_cons.2 ⟨(by show ¬ g1 = g8; omega), List.forall_mem_cons.2 ⟨(by show ¬ g1 = g8; omega), List.forall_mem_cons.2 ⟨(by show ¬ b = g8; omega), List.forall_mem_cons.2 ⟨(by show ¬ b = g8; omega), List.forall_mem_cons.2 ⟨(by show ¬ b = g8; omega), List.forall_mem_cons.2 ⟨(by show ¬ b = g8; omega), List.forall_mem_cons.2 ⟨(by show ¬ b = g8; omega), List.forall_mem_cons.2 ⟨(by show ¬ b = g8; omega), List.forall_mem_cons.2 ⟨(by show ¬ b = g8; omega), List.forall_mem_cons.2 ⟨(by show ¬ b = g8; omega), fun _ h => by simp at h⟩⟩⟩⟩⟩⟩⟩⟩⟩⟩)).set _ _ _ (List.forall_mem_cons.2 ⟨(by show ¬ g1 = g8; omega), List.forall_mem_cons.2 ⟨(by show ¬ g1 = g8; omega), List.forall_mem_cons.2 ⟨(by show ¬ b = g8; omega), List.forall_mem_cons.2 ⟨(by show ¬ b = g8; omega), List.forall_mem_cons.2 ⟨(by show ¬ b = g8; omega), List.forall_mem_cons.2 ⟨(by show ¬ b = g8; omega), List.forall_mem_cons.2 ⟨(by show ¬ b = g8; omega), List.forall_mem_cons.2 ⟨(by show ¬ b = g8; omega), List.forall_mem_cons.2 ⟨(by show ¬ b = g8; omega), List.forall_mem_cons.2 ⟨(by show ¬ b = g8; omega), fun _ h => by simp at h⟩⟩⟩⟩⟩⟩⟩⟩⟩⟩)
                have Tu4 := Lib.hid (show Below wj.heap.size wj u4 by rw [hu4]; exact (((Tu3.out.setCell (p := ⟨g8, 0, none⟩) lg8 _).setCell (p := ⟨g8, 1, none⟩) lg8 _).setCell (p := ⟨g8, 2, none⟩) lg8 _).setCell (p := ⟨g8, 3, none⟩) lg8 _)
                go_simp
                rw [← hu4]
                clear hu4 k0 k1 k2 k3 f0 f1 f2 f3 k4
                refine hK.out _ _ hKn (fun hHeld => ?_)
                clear hK K
                try simp only [Act.put, sA, sZ, sS]
                refine wpAnyH_done (by kernel_rfl) ?_ _
                go_wp2_with fail
                go_meet
                exact ⟨g7, g8, rfl, rfl, Vu4.out.pick [1, 0, 2] (by decide) (by simp), Tu4.out⟩
              refine AllReadyH.cons (List.getElem?_toArray.trans rfl) (fun K hK => ?_) AllReadyH.nil
              obtain ⟨g8, hg8⟩ : ∃ z, z = wd.heap.size := ⟨_, rfl⟩
              obtain ⟨u5, hu5⟩ : ∃ z, z = wd.alloc (.cells #[.string ⟨#[]⟩, .slice none 0 0, .int .i64 0, .int .i64 0] 64) := ⟨_, rfl⟩
              have Vu5 := Lib.hid (show Hp w [sgbox g8 (none, 0) zSg, obox g1 nm (some ⟨b, off, none⟩) n c] u5 by rw [hu5, hg8]; exact V4d.out.sgbox_new none 0 zSg)
              have Bu5 := Lib.hid (show Below wd.heap.size wd u5 by rw [hu5]; exact bnew _ _)
              have Tu5 := Lib.hid (show Below wj.heap.size wj u5 from btwo Twd.out Bu5.out)
              have lg8 : wj.heap.size ≤ g8 := by rw [hg8]; exact Twd.out.size
              go_simp
              rw [← hu5, ← hg8]
              clear hu5 hg8
              refine hK.out _ _ (hHeld.go Bu5.out) (fun hHeld => ?_)
              clear hK K
              try simp only [Act.put, sA, sZ, sS]
              refine wpAnyH_ready (rs := [10]) (by kernel_rfl) (by simp) ?_
              refine AllReadyH.cons (List.getElem?_toArray.trans rfl) (fun K hK => ?_) AllReadyH.nil
              obtain ⟨g7, hg7⟩ : ∃ z, z = u5.heap.size := ⟨_, rfl⟩
              obtain ⟨u6, hu6⟩ : ∃ z, z = u5.alloc (.cells #[.string ⟨#[]⟩, .slice none 0 0, .int .i64 0, .int .i64 0] 64) := ⟨_, rfl⟩
              have Vu6 := Lib.hid (show Hp w [sgbox g7 (none, 0) zSg, sgbox g8 (none, 0) zSg, obox g1 nm (some ⟨b, off, none⟩) n c] u6 by rw [hu6, hg7]; exact Vu5.out.sgbox_new none 0 zSg)
              have Bu6 := Lib.hid (show Below u5.heap.size u5 u6 by rw [hu6]; exact bnew _ _)
              have Tu6 := Lib.hid (show Below wj.heap.size wj u6 from btwo Tu5.out Bu6.out)
              have lg7 : wj.heap.size ≤ g7 := by rw [hg7]; exact Tu5.out.size
              go_simp
              rw [← hu6, ← hg7]
              clear hu6 hg7
              refine hK.out _ _ (hHeld.go Bu6.out) (fun hHeld => ?_)
              clear hK K
              try simp only [Act.put, sA, sZ, sS]
              refine wpAnyH_ready (rs := [12]) (by kernel_rfl) (by simp) ?_
              refine AllReadyH.cons (List.getElem?_toArray.trans rfl) (fun K hK => ?_) AllReadyH.nil
              obtain ⟨⟨k0, k1, k2, k3⟩, ⟨f0, f1, f2, f3⟩, k4⟩ := Vu6.out.sgbox_all (i := 0) rfl
              dsimp only [zSg, List.length_nil] at k0 k1 k2 k3
              obtain ⟨u7, hu7⟩ : ∃ z, z = (((u6.setCell ⟨g7, 0, none⟩ (.string (bs x.t))).setCell ⟨g7, 1, none⟩ (.slice Aj' x.s.length cj')).setCell ⟨g7, 2, none⟩ (.int .i64 x.c)).setCell ⟨g7, 3, none⟩ (.int .i64 x.w) := ⟨_, rfl⟩
              have Vu7 := Lib.hid (show Hp w [sgbox g7 (Aj', cj') x, sgbox g8 (none, 0) zSg, obox g1 nm (some ⟨b, off, none⟩) n c] u7 by rw [hu7]; exact Vu6.out.sgbox_put (i := 0) rfl Aj' cj' x)
              have hKn : Keep [(⟨g1, 0, none⟩, .string (bs nm)), (⟨g1, 1, none⟩, .slice (some ⟨b, off, none⟩) n c), (⟨b, off + k * 4, none⟩, .string (bs x.t)), (⟨b, off + k * 4 + 1, none⟩, .slice Aj' x.s.length cj'), (⟨b, off + k * 4 + 2, none⟩, .int .i64 x.c), (⟨b, off + k * 4 + 3, none⟩, .int .i64 x.w), (⟨b, off + q * 4, none⟩, .string (bs y.t)), (⟨b, off + q * 4 + 1, none⟩, .slice Bj y.s.length dj), (⟨b, off + q * 4 + 2, none⟩, .int .i64 y.c), (⟨b, off + q * 4 + 3, none⟩, .int .i64 y.w)] u7 := by
                rw [hu7]
                exact (((hHeld.set _ _ _ (List.forall_mem_cons.2 ⟨(by show ¬ g1 = g7; omega), List.forall_mem_cons.2 ⟨(by show ¬ g1 = g7; omega), List.forall_mem_cons.2 ⟨(by show ¬ b = g7; omega), List.forall_mem_cons.2 ⟨(by show ¬ b = g7; omega), List.forall_mem_cons.2 ⟨(by show ¬ b = g7; omega), List.forall_mem_cons.2 ⟨(by show ¬ b = g7; omega), List.forall_mem_cons.2 ⟨(by show ¬ b = g7; omega), List.forall_mem_cons.2 ⟨(by show ¬ b = g7; omega), List.forall_mem_cons.2 ⟨(by show ¬ b = g7; omega), List.forall_mem_cons.2 ⟨(by show ¬ b = g7; omega), fun _ h => by simp at h⟩⟩⟩⟩⟩⟩⟩⟩⟩⟩)).set _ _ _ (List.forall_mem_cons.2 ⟨(by show ¬ g1 = g7; omega), List.forall_mem_cons.2 ⟨(by show ¬ g1 = g7; omega), List.forall_mem_cons.2 ⟨(by show ¬ b = g7; omega), List.forall_mem_cons.2 ⟨(by show ¬ b = g7; omega), List.forall_mem_cons.2 ⟨(by show ¬ b = g7; omega), List.forall_mem_cons.2 ⟨(by show ¬ b = g7; omega), List.forall_mem_cons.2 ⟨(by show ¬ b = g7; omega), List.forall_mem_cons.2 ⟨(by show ¬ b = g7; omega), List.forall_mem_cons.2 ⟨(by show ¬ b = g7; omega), List.forall_mem_cons.2 ⟨(by show ¬ b = g7; omega), fun _ h => by simp at h⟩⟩⟩⟩⟩⟩⟩⟩⟩⟩)).set _ _ _ (List.forall_mem_cons.2 ⟨(by show ¬ g1 = g7; omega), List.forall_mem_cons.2 ⟨(by show ¬ g1 = g7; omega), List.forall_mem_cons.2 ⟨(by show ¬ b = g7; omega), List.forall_mem_cons.2 ⟨(by show ¬ b = g7; omega), List.forall_mem_cons.2 ⟨(by show ¬ b = g7; omega), List.forall_mem_cons.2 ⟨(by show ¬ b = g7; omega), List.forall_mem_cons.2 ⟨(by show ¬ b = g7; omega), List.forall_mem_cons.2 ⟨(by show ¬ b = g7; omega), List.forall_mem_cons.2 ⟨(by show ¬ b = g7; omega), List.forall_mem_cons.2 ⟨(by show ¬ b = g7; omega), fun _ h => by simp at h⟩⟩⟩⟩⟩⟩⟩⟩⟩⟩)).set _ _ _ (List.forall_mem_cons.2 ⟨(by show ¬ g1 = g7; omega), List.forall_mem_cons.2 ⟨(by show ¬ g1 = g7; omega), List.forall_mem_cons.2 ⟨(by show ¬ b = g7; omega), List.forall_mem_cons.2 ⟨(by show ¬ b = g7; omega), List.forall_mem_cons.2 ⟨(by show ¬ b = g7; omega), List.forall_mem_cons.2 ⟨(by show ¬ b = g7; omega), List.forall_mem_cons.2 ⟨(by show ¬ b = g7; omega), List.forall_mem_cons.2 ⟨(by show ¬ b = g7; omega), List.forall_mem_cons.2 ⟨(by show ¬ b = g7; omega), List.forall_mem_cons.2 ⟨(by show ¬ b = g7; omega), fun _ h => by simp at h⟩⟩⟩⟩⟩⟩⟩⟩⟩⟩)
              have Tu7 := Lib.hid (show Below wj.heap.size wj u7 by rw [hu7]; exact (((Tu6.out.setCell (p := ⟨g7, 0, none⟩) lg7 _).setCell (p := ⟨g7, 1, none⟩) lg7 _).setCell (p := ⟨g7, 2, none⟩) lg7 _).setCell (p := ⟨g7, 3, none⟩) lg7 _)
              go_simp
              rw [← hu7]
              clear hu7 k0 k1 k2 k3 f0 f1 f2 f3 k4
              refine hK.out _ _ hKn (fun hHeld => ?_)
              clear hK K
              try simp only [Act.put, sA, sZ, sS]
              refine wpAnyH_ready (rs := [13]) (by kernel_rfl) (by simp) ?_
              refine AllReadyH.cons (List.getElem?_toArray.trans rfl) (fun K hK => ?_) AllReadyH.nil
              obtain ⟨⟨k0, k1, k2, k3⟩, ⟨f0, f1, f2, f3⟩, k4⟩ := Vu7.out.sgbox_all (i := 1) rfl
              dsimp only [zSg, List.length_nil] at k0 k1 k2 k3
              obtain ⟨u8, hu8⟩ : ∃ z, z = (((u7.setCell ⟨g8, 0, none⟩ (.string (bs y.t))).setCell ⟨g8, 1, none⟩ (.slice Bj y.s.length dj)).setCell ⟨g8, 2, none⟩ (.int .i64 y.c)).setCell ⟨g8, 3, none⟩ (.int .i64 y.w) := ⟨_, rfl⟩
              have Vu8 := Lib.hid (show Hp w [sgbox g7 (Aj', cj') x, sgbox g8 (Bj, dj) y, obox g1 nm (some ⟨b, off, none⟩) n c] u8 by rw [hu8]; exact Vu7.out.sgbox_put (i := 1) rfl Bj dj y)
              have hKn : Keep [(⟨g1, 0, none⟩, .string (bs nm)), (⟨g1, 1, none⟩, .slice (some ⟨b, off, none⟩) n c), (⟨b, off + k * 4, none⟩, .string (bs x.t)), (⟨b, off + k * 4 + 1, none⟩, .slice Aj' x.s.length cj'), (⟨b, off + k * 4 + 2, none⟩, .int .i64 x.c), (⟨b, off + k * 4 + 3, none⟩, .int .i64 x.w), (⟨b, off + q * 4, none⟩, .string (bs y.t)), (⟨b, off + q * 4 + 1, none⟩, .slice Bj y.s.length dj), (⟨b, off + q * 4 + 2, none⟩, .int .i64 y.c), (⟨b, off + q * 4 + 3, none⟩, .int .i64 y.w)] u8 := by
                rw [hu8]
                exact (((hHeld.set _ _ _ (List.forall_mem_cons.2 ⟨(by show ¬ g1 = g8; omega), List.forall_mem_cons.2 ⟨(by show ¬ g1 = g8; omega), List.forall_mem_cons.2 ⟨(by show ¬ b = g8; omega), List.forall_mem_cons.2 ⟨(by show ¬ b = g8; omega), List.forall_mem_cons.2 ⟨(by show ¬ b = g8; omega), List.forall_mem_cons.2 ⟨(by show ¬ b = g8; omega), List.forall_mem_cons.2 ⟨(by show ¬ b = g8; omega), List.forall_mem_cons.2 ⟨(by show ¬ b = g8; omega), List.forall_mem_cons.2 ⟨(by show ¬ b = g8; omega), List.forall_mem_cons.2 ⟨(by show ¬ b = g8; omega), fun _ h => by simp at h⟩⟩⟩⟩⟩⟩⟩⟩⟩⟩)).set _ _ _ (List.forall_mem_cons.2 ⟨(by show ¬ g1 = g8; omega), List.forall_mem_cons.2 ⟨(by show ¬ g1 = g8; omega), List.forall_mem_cons.2 ⟨(by show ¬ b = g8; omega), List.forall_mem_cons.2 ⟨(by show ¬ b = g8; omega), List.forall_mem_cons.2 ⟨(by show ¬ b = g8; omega), List.forall_mem_cons.2 ⟨(by show ¬ b = g8; omega), List.forall_mem_cons.2 ⟨(by show ¬ b = g8; omega), List.forall_mem_cons.2 ⟨(by show ¬ b = g8; omega), List.forall_mem_cons.2 ⟨(by show ¬ b = g8; omega), List.forall_mem_cons.2 ⟨(by show ¬ b = g8; omega), fun _ h => by simp at h⟩⟩⟩⟩⟩⟩⟩⟩⟩⟩)).set _ _ _ (List.forall_mem_cons.2 ⟨(by show ¬ g1 = g8; omega), List.forall_mem_cons.2 ⟨(by show ¬ g1 = g8; omega), List.forall_mem_cons.2 ⟨(by show ¬ b = g8; omega), List.forall_mem_cons.2 ⟨(by show ¬ b = g8; omega), List.forall_mem_cons.2 ⟨(by show ¬ b = g8; omega), List.forall_mem_cons.2 ⟨(by show ¬ b = g8; omega), List.forall_mem_cons.2 ⟨(by show ¬ b = g8; omega), List.forall_mem_cons.2 ⟨(by show ¬ b = g8; omega), List.forall_mem_cons.2 ⟨(by show ¬ b = g8; omega), List.forall_mem_cons.2 ⟨(by show ¬ b = g8; omega), fun _ h => by simp at h⟩⟩⟩⟩⟩⟩⟩⟩⟩⟩)).set _ _ _ (List.forall_mem_cons.2 ⟨(by show ¬ g1 = g8; omega), List.forall_mem_cons.2 ⟨(by show ¬ g1 = g8; omega), List.forall_mem_cons.2 ⟨(by show ¬ b = g8; omega), List.forall_mem_cons.2 ⟨(by show ¬ b = g8; omega), List.forall_mem_cons.2 ⟨(by show ¬ b = g8; omega), List.forall_mem_cons.2 ⟨(by show ¬ b = g8; omega), List.forall_mem_cons.2 ⟨(by show ¬ b = g8; omega), List.forall_mem_cons.2 ⟨(by show ¬ b = g8; omega), List.forall_mem_cons.2 ⟨(by show ¬ b = g8; omega), List.forall_mem_cons.2 ⟨(by show ¬ b = g8; omega), fun _ h => by simp at h⟩⟩⟩⟩⟩⟩⟩⟩⟩⟩)
              have Tu8 := Lib.hid (show Below wj.heap.size wj u8 by rw [hu8]; exact (((Tu7.out.setCell (p := ⟨g8, 0, none⟩) lg8 _).setCell (p := ⟨g8, 1, none⟩) lg8 _).setCell (p := ⟨g8, 2, none⟩) lg8 _).setCell (p := ⟨g8, 3, none⟩) lg8 _)
              go_simp
              rw [← hu8]
              clear hu8 k0 k1 k2 k3 f0 f1 f2 f3 k4
              refine hK.out _ _ hKn (fun hHeld => ?_)
              clear hK K
              try simp only [Act.put, sA, sZ, sS]
              refine wpAnyH_done (by kernel_rfl) ?_ _
              go_wp2_with fail
              go_meet
              exact ⟨g7, g8, rfl, rfl, Vu8.out.pick [0, 1, 2] (by decide) (by simp), Tu8.out⟩
            case rest =>
              obtain ⟨g7, g8, rfl, rfl, hV5, hB5⟩ := hcut
              have V5 := Lib.hid hV5
              have HD5 := Lib.hid (HD.out.below hB5)
              have HC5 := Lib.hid (HC2.out.below hB5)
              obtain ⟨u0, u1, u2, u3, u4⟩ := V5.out.sgbox_at (i := 0) rfl
              obtain ⟨v0, v1, v2, v3, v4⟩ := V5.out.sgbox_at (i := 1) rfl
              dsimp only at u1 v1
              have HLK := Lib.hid (likeB_comm x y)
              have HNX := Lib.hid (fun (h : likeB y x = false) => show ((L.take (q + 1)).any fun e => likeB e x) = false by
                rw [take_snoc HYq.out, List.any_append, HANY.out]; simp [h])
              clear hV5 hB5 x0 x1 x2 c0 c1 c2 c3 d0 d1 d2 d3 hb
              by_cases ht : x.t = y.t
              · by_cases hwh : x.w = y.w
                · have HE := Lib.hid (likeB_s ht hwh)
                  have e1 : ((bs x.t).toList == (bs y.t).toList) = true := by rw [toL, toL]; simpa using ht
                  have e2 : (x.w == y.w) = true := by simpa using hwh
                  clear ht hwh
                  go_wp2_with fail
                  refine (rsame_any x.s y.s _ _ cj' dj Aj' Bj _ rfl rfl (by omega) (by omega) HC5.out HD5.out).mono ?_
                  rintro e w6 ⟨rfl, hb6⟩
                  have V6 := Lib.hid (V5.out.go hb6)
                  rw [eq_same]
                  clear hb6
                  cases hsm : sameL x.s y.s with
                  | true =>
                    have HF := Lib.hid (HI.out.like HX.out HV0.out (List.any_eq_true.2 ⟨y, by
                      have := HYq.out
                      exact List.mem_of_getElem? (i := q) (by rw [List.getElem?_take_of_lt hqk]; exact this), by rw [← HLK.out, HE.out]; exact hsm⟩))
                    clear hsm
                    go_wp2_with fail
                    go_ret2
                    exact ⟨by rw [HV.out, HF.out]; rfl, V6.out.below⟩
                  | false =>
                    have HN := Lib.hid (HNX.out (by rw [← HLK.out, HE.out]; exact hsm))
                    clear hsm
                    go_wp2_with fail
                    go_roundw
                    case rel => exact ⟨q + 1, by omega, by go_num, HN.out, V6.out.tail.tail⟩
                    case measure => simp [intOf]; omega
                · have HN := Lib.hid (HNX.out (by rw [← HLK.out]; exact likeB_w hwh))
                  have e1 : ((bs x.t).toList == (bs y.t).toList) = true := by rw [toL, toL]; simpa using ht
                  have e2 : (x.w == y.w) = false := by simpa using hwh
                  clear ht hwh
                  go_wp2_with fail
                  go_roundw
                  case rel => exact ⟨q + 1, by omega, by go_num, HN.out, V5.out.tail.tail⟩
                  case measure => simp [intOf]; omega
              · have HN := Lib.hid (HNX.out (by rw [← HLK.out]; exact likeB_t ht))
                have e1 : ((bs x.t).toList == (bs y.t).toList) = false := by rw [toL, toL]; simpa using ht
                clear ht
                go_wp2_with fail
                go_roundw
                case rel => exact ⟨q + 1, by omega, by go_num, HN.out, V5.out.tail.tail⟩
                case measure => simp [intOf]; omega
          · obtain rfl : q = k := by omega
            have HN := Lib.hid (HI.out.step HX.out HV0.out HANY.out)
            go_wp2_with fail
            go_roundw
            case rel => exact ⟨q + 1, by omega, by go_num, HN.out, V4.out⟩
            case measure => simp [intOf]; omega
      · have HE := Lib.hid (HI.out.err HX.out hv)
        obtain ⟨v, hvv⟩ : ∃ v, v = sgE x := ⟨_, rfl⟩
        rw [← hvv] at hv HE ⊢
        have e1 : (v != 0) = true := bne_yes hv
        clear hv hvv
        go_wp2_with fail
        go_ret2
        exact ⟨by rw [HV.out, HE.out]; rfl, V3.out.below⟩
    · have HE := Lib.hid (HI.out.fin (by have := HL.out; omega))
      obtain ⟨x0, x1, x2⟩ := V2.out.obox_at (i := 0) rfl
      go_wp2_with fail
      go_ret2
      exact ⟨by rw [HV.out, HE.out]; rfl, V2.out.below⟩
end Go.Proofs.YtjamfcihjendiaaGreat
