/- What the statement on Format answers: true, whatever the input. -/
import Derived.Test.YtfgnekbkcmpdiaaGreatDoorYb
namespace Go.Proofs.YtfgnekbkcmpdiaaGreatDoor
open Go.RowKit
set_option linter.unusedVariables false
set_option linter.unusedSimpArgs false
set_option maxRecDepth 100000

set_option maxHeartbeats 4000000 in
/-- Same of two orthographies that hold the same: true. -/
theorem rsameO_refl (nm : List UInt8) (L : List Sg) (A B : Option Addr) (n c d : Nat) (w : World) (hl : L.length = n) (hn : n ≤ 1000000) (hs : SgBd L) (hA : SgnIn w A L) (hB : SgnIn w B L) :
    Calls Tryz.prog 9 #[.agg #[.string (bs nm), .slice A n c], .agg #[.string (bs nm), .slice B n d]] w fun e w' => e = .returned (.bool true) ∧ Below w.heap.size w w' := by
  obtain ⟨g1, hg1⟩ : ∃ z, z = w.heap.size := ⟨_, rfl⟩
  obtain ⟨W1, hW1⟩ : ∃ z, z = w.alloc (.cells #[.string (bs nm), .slice A n c] 25) := ⟨_, rfl⟩
  have V1 := Lib.hid (show Hp w [obox g1 nm A n c] W1 by rw [hW1, hg1]; exact (Hp.start w).obox_new nm A n c)
  obtain ⟨g2, hg2⟩ : ∃ z, z = W1.heap.size := ⟨_, rfl⟩
  obtain ⟨W2, hW2⟩ : ∃ z, z = W1.alloc (.cells #[.string (bs nm), .slice B n d] 25) := ⟨_, rfl⟩
  have V2 := Lib.hid (show Hp w [obox g2 nm B n d, obox g1 nm A n c] W2 by rw [hW2, hg2]; exact V1.out.obox_new nm B n d)
  have HG2 := Lib.hid (show g2 = g1 + 1 by rw [hg2, hW1, hg1]; simp)
  have HW1 := Lib.hid hW1
  have HG1 := Lib.hid hg1
  have HW2 := Lib.hid hW2
  have HL := Lib.hid hl
  have HA := Lib.hid hA
  have HB := Lib.hid hB
  have HSB := Lib.hid hs
  obtain ⟨x0, x1, x2⟩ := V2.out.obox_at (i := 1) rfl
  obtain ⟨y0, y1, y2⟩ := V2.out.obox_at (i := 0) rfl
  clear hW1 hg1 hW2 hg2 hl hA hB hs V1
  go_enter Tryz.func9, Tryz.ntmps9
  go_upto_region 1 with fail
  rw [← HG1.out, ← HW1.out, ← HG2.out, ← HW2.out]
  go_wp2_with fail
  clear x0 x1 x2 y0 y1 y2
  go_loopw [5] (fun i wr => ∃ k : Nat, k ≤ n ∧ i = .int .i64 (k : Int) ∧ Hp w [obox g2 nm B n d, obox g1 nm A n c] wr) (fun i _ => n - (intOf i).toNat)
  case atStart => exact ⟨0, Nat.zero_le _, rfl, V2.out⟩
  case round =>
    obtain ⟨k, hk, rfl, hV⟩ := hrel
    obtain ⟨wj, rfl⟩ : ∃ wi : World, wi = wr := ⟨_, rfl⟩
    have V4 := Lib.hid hV
    clear hV V2
    obtain ⟨x0, x1, x2⟩ := V4.out.obox_at (i := 1) rfl
    obtain ⟨y0, y1, y2⟩ := V4.out.obox_at (i := 0) rfl
    by_cases hlt : k < n
    · obtain ⟨x, hx⟩ := get_at (L := L) (k := k) (by have := HL.out; omega)
      obtain ⟨b1, o1, Aj, cj, hAe, hb, c0, c1, c2, c3, c4⟩ := (HA.out.below V4.out.below).at hx
      obtain ⟨b2, o2, Bj, dj, hBe, hb', d0, d1, d2, d3, d4⟩ := (HB.out.below V4.out.below).at hx
      have hsl := (HSB.out x (List.mem_of_getElem? hx)).2.1
      have HC := Lib.hid c4
      have HD := Lib.hid d4
      rw [hAe] at x1
      rw [hBe] at y1
      have HAE := Lib.hid hAe
      have HBE := Lib.hid hBe
      have hk4 : k * 4 ≤ 4000000 := by omega
      subst hAe
      subst hBe
      clear hx c4 d4
      go_upto_region 6 with fail
      go_cut [6, 7] (fun p7 p8 wx => ∃ g7 g8 : Nat, p7 = .pointer (some ⟨g7, 0, none⟩) ∧ p8 = .pointer (some ⟨g8, 0, none⟩) ∧ Hp w [sgbox g7 (Aj, cj) x, sgbox g8 (Bj, dj) x, obox g2 nm (some ⟨b2, o2, none⟩) n d, obox g1 nm (some ⟨b1, o1, none⟩) n c] wx ∧ Below wj.heap.size wj wx)
      case first =>
        have hKp : Keep [(⟨g1, 0, none⟩, .string (bs nm)), (⟨g1, 1, none⟩, .slice (some ⟨b1, o1, none⟩) n c), (⟨g2, 0, none⟩, .string (bs nm)), (⟨g2, 1, none⟩, .slice (some ⟨b2, o2, none⟩) n d), (⟨b1, o1 + k * 4, none⟩, .string (bs x.t)), (⟨b1, o1 + k * 4 + 1, none⟩, .slice Aj x.s.length cj), (⟨b1, o1 + k * 4 + 2, none⟩, .int .i64 x.c), (⟨b1, o1 + k * 4 + 3, none⟩, .int .i64 x.w), (⟨b2, o2 + k * 4, none⟩, .string (bs x.t)), (⟨b2, o2 + k * 4 + 1, none⟩, .slice Bj x.s.length dj), (⟨b2, o2 + k * 4 + 2, none⟩, .int .i64 x.c), (⟨b2, o2 + k * 4 + 3, none⟩, .int .i64 x.w)] wj := List.forall_mem_cons.2 ⟨⟨x0, x2⟩, List.forall_mem_cons.2 ⟨⟨x1, x2⟩, List.forall_mem_cons.2 ⟨⟨y0, y2⟩, List.forall_mem_cons.2 ⟨⟨y1, y2⟩, List.forall_mem_cons.2 ⟨⟨c0, hb⟩, List.forall_mem_cons.2 ⟨⟨c1, hb⟩, List.forall_mem_cons.2 ⟨⟨c2, hb⟩, List.forall_mem_cons.2 ⟨⟨c3, hb⟩, List.forall_mem_cons.2 ⟨⟨d0, hb'⟩, List.forall_mem_cons.2 ⟨⟨d1, hb'⟩, List.forall_mem_cons.2 ⟨⟨d2, hb'⟩, List.forall_mem_cons.2 ⟨⟨d3, hb'⟩, fun _ h => by simp at h⟩⟩⟩⟩⟩⟩⟩⟩⟩⟩⟩⟩
        clear x0 x1 y0 y1 c0 c1 c2 c3 d0 d1 d2 d3
        refine wp_region_held_drew (S := Keep _) (by kernel_rfl) hKp.drew (fun hHeld => ?_)
        obtain ⟨wd, hwd⟩ : ∃ z, z = wj.drew := ⟨_, rfl⟩
        have V4d := Lib.hid (show Hp w [obox g2 nm (some ⟨b2, o2, none⟩) n d, obox g1 nm (some ⟨b1, o1, none⟩) n c] wd by rw [hwd]; exact V4.out.go (bdrew _))
        have Twd := Lib.hid (show Below wj.heap.size wj wd by rw [hwd]; exact bdrew _)
        rw [← hwd] at hHeld ⊢
        clear hwd
        refine tk 0 ?_ rfl ?_ ?_; rotate_left; focus (intro w hSw; clear hSw; go_simp; try (with_reducible rfl))
        try simp only [Act.put, sA, sZ, sS]
        refine tk 1 ?_ rfl ?_ ?_; rotate_left
        · intro wl hSw
          have hSw : Keep _ wl := hSw
          have k0 := (hSw _ (.head _)).1
          have k1 := (hSw _ (.tail _ (.head _))).1
          dsimp only at k0 k1
          clear hSw
          go_simp
          try (with_reducible rfl)
        try simp only [Act.put, sA, sZ, sS]
        refine tk 2 ?_ rfl ?_ ?_; rotate_left; focus (intro w hSw; clear hSw; go_simp; try (with_reducible rfl))
        try simp only [Act.put, sA, sZ, sS]
        refine tk 3 ?_ rfl ?_ ?_; rotate_left; focus (intro w hSw; clear hSw; go_simp; try (with_reducible rfl))
        try simp only [Act.put, sA, sZ, sS]
        refine tk 4 ?_ rfl ?_ ?_; rotate_left
        · intro wl hSw
          have hSw : Keep _ wl := hSw
          have k0 := (hSw _ (.tail _ (.tail _ (.tail _ (.tail _ (.head _)))))).1
          have k1 := (hSw _ (.tail _ (.tail _ (.tail _ (.tail _ (.tail _ (.head _))))))).1
          have k2 := (hSw _ (.tail _ (.tail _ (.tail _ (.tail _ (.tail _ (.tail _ (.head _)))))))).1
          have k3 := (hSw _ (.tail _ (.tail _ (.tail _ (.tail _ (.tail _ (.tail _ (.tail _ (.head _))))))))).1
          dsimp only at k0 k1 k2 k3
          clear hSw
          go_simp
          try (with_reducible rfl)
        try simp only [Act.put, sA, sZ, sS]
        refine tk 5 ?_ rfl ?_ ?_; rotate_left; focus (intro w hSw; clear hSw; go_simp; try (with_reducible rfl))
        try simp only [Act.put, sA, sZ, sS]
        refine tk 6 ?_ rfl ?_ ?_; rotate_left
        · intro wl hSw
          have hSw : Keep _ wl := hSw
          have k0 := (hSw _ (.tail _ (.tail _ (.head _)))).1
          have k1 := (hSw _ (.tail _ (.tail _ (.tail _ (.head _))))).1
          dsimp only at k0 k1
          clear hSw
          go_simp
          try (with_reducible rfl)
        try simp only [Act.put, sA, sZ, sS]
        refine tk 7 ?_ rfl ?_ ?_; rotate_left; focus (intro w hSw; clear hSw; go_simp; try (with_reducible rfl))
        try simp only [Act.put, sA, sZ, sS]
        refine tk 8 ?_ rfl ?_ ?_; rotate_left; focus (intro w hSw; clear hSw; go_simp; try (with_reducible rfl))
        try simp only [Act.put, sA, sZ, sS]
        refine tk 9 ?_ rfl ?_ ?_; rotate_left
        · intro wl hSw
          have hSw : Keep _ wl := hSw
          have k0 := (hSw _ (.tail _ (.tail _ (.tail _ (.tail _ (.tail _ (.tail _ (.tail _ (.tail _ (.head _)))))))))).1
          have k1 := (hSw _ (.tail _ (.tail _ (.tail _ (.tail _ (.tail _ (.tail _ (.tail _ (.tail _ (.tail _ (.head _))))))))))).1
          have k2 := (hSw _ (.tail _ (.tail _ (.tail _ (.tail _ (.tail _ (.tail _ (.tail _ (.tail _ (.tail _ (.tail _ (.head _)))))))))))).1
          have k3 := (hSw _ (.tail _ (.tail _ (.tail _ (.tail _ (.tail _ (.tail _ (.tail _ (.tail _ (.tail _ (.tail _ (.tail _ (.head _))))))))))))).1
          dsimp only at k0 k1 k2 k3
          clear hSw
          go_simp
          try (with_reducible rfl)
        try simp only [Act.put, sA, sZ, sS]
        refine wpAnyH_ready (rs := [10, 11]) (by kernel_rfl) (by simp) ?_
        refine AllReadyH.cons (List.getElem?_toArray.trans rfl) (fun K hK => ?_) ?_
        · obtain ⟨g7, hg7⟩ : ∃ z, z = wd.heap.size := ⟨_, rfl⟩
          obtain ⟨u1, hu1⟩ : ∃ z, z = wd.alloc (.cells #[.string ⟨#[]⟩, .slice none 0 0, .int .i64 0, .int .i64 0] 34) := ⟨_, rfl⟩
          have Vu1 := Lib.hid (show Hp w [sgbox g7 (none, 0) zSg, obox g2 nm (some ⟨b2, o2, none⟩) n d, obox g1 nm (some ⟨b1, o1, none⟩) n c] u1 by rw [hu1, hg7]; exact V4d.out.sgbox_new none 0 zSg)
          have Bu1 := Lib.hid (show Below wd.heap.size wd u1 by rw [hu1]; exact bnew _ _)
          have Tu1 := Lib.hid (show Below wj.heap.size wj u1 from btwo Twd.out Bu1.out)
          have lg7 : wj.heap.size ≤ g7 := by rw [hg7]; exact Twd.out.size
          go_simp
          rw [← hu1, ← hg7]
          clear hu1 hg7
          refine hK.out _ _ (hHeld.go Bu1.out) (fun hHeld => ?_)
          clear hK K
          try simp only [Act.put, sA, sZ, sS]
          refine wpAnyH_ready (rs := [11]) (by kernel_rfl) (by simp) ?_
          refine AllReadyH.cons (List.getElem?_toArray.trans rfl) (fun K hK => ?_) AllReadyH.nil
          obtain ⟨g8, hg8⟩ : ∃ z, z = u1.heap.size := ⟨_, rfl⟩
          obtain ⟨u2, hu2⟩ : ∃ z, z = u1.alloc (.cells #[.string ⟨#[]⟩, .slice none 0 0, .int .i64 0, .int .i64 0] 34) := ⟨_, rfl⟩
          have Vu2 := Lib.hid (show Hp w [sgbox g8 (none, 0) zSg, sgbox g7 (none, 0) zSg, obox g2 nm (some ⟨b2, o2, none⟩) n d, obox g1 nm (some ⟨b1, o1, none⟩) n c] u2 by rw [hu2, hg8]; exact Vu1.out.sgbox_new none 0 zSg)
          have Bu2 := Lib.hid (show Below u1.heap.size u1 u2 by rw [hu2]; exact bnew _ _)
          have Tu2 := Lib.hid (show Below wj.heap.size wj u2 from btwo Tu1.out Bu2.out)
          have lg8 : wj.heap.size ≤ g8 := by rw [hg8]; exact Tu1.out.size
          go_simp
          rw [← hu2, ← hg8]
          clear hu2 hg8
          refine hK.out _ _ (hHeld.go Bu2.out) (fun hHeld => ?_)
          clear hK K
          try simp only [Act.put, sA, sZ, sS]
          refine wpAnyH_ready (rs := [12]) (by kernel_rfl) (by simp) ?_
          refine AllReadyH.cons (List.getElem?_toArray.trans rfl) (fun K hK => ?_) AllReadyH.nil
          obtain ⟨⟨k0, k1, k2, k3⟩, ⟨f0, f1, f2, f3⟩, k4⟩ := Vu2.out.sgbox_all (i := 1) rfl
          dsimp only [zSg, List.length_nil] at k0 k1 k2 k3
          obtain ⟨u3, hu3⟩ : ∃ z, z = (((u2.setCell ⟨g7, 0, none⟩ (.string (bs x.t))).setCell ⟨g7, 1, none⟩ (.slice Aj x.s.length cj)).setCell ⟨g7, 2, none⟩ (.int .i64 x.c)).setCell ⟨g7, 3, none⟩ (.int .i64 x.w) := ⟨_, rfl⟩
          have Vu3 := Lib.hid (show Hp w [sgbox g8 (none, 0) zSg, sgbox g7 (Aj, cj) x, obox g2 nm (some ⟨b2, o2, none⟩) n d, obox g1 nm (some ⟨b1, o1, none⟩) n c] u3 by rw [hu3]; exact Vu2.out.sgbox_put (i := 1) rfl Aj cj x)
          have hKn : Keep [(⟨g1, 0, none⟩, .string (bs nm)), (⟨g1, 1, none⟩, .slice (some ⟨b1, o1, none⟩) n c), (⟨g2, 0, none⟩, .string (bs nm)), (⟨g2, 1, none⟩, .slice (some ⟨b2, o2, none⟩) n d), (⟨b1, o1 + k * 4, none⟩, .string (bs x.t)), (⟨b1, o1 + k * 4 + 1, none⟩, .slice Aj x.s.length cj), (⟨b1, o1 + k * 4 + 2, none⟩, .int .i64 x.c), (⟨b1, o1 + k * 4 + 3, none⟩, .int .i64 x.w), (⟨b2, o2 + k * 4, none⟩, .string (bs x.t)), (⟨b2, o2 + k * 4 + 1, none⟩, .slice Bj x.s.length dj), (⟨b2, o2 + k * 4 + 2, none⟩, .int .i64 x.c), (⟨b2, o2 + k * 4 + 3, none⟩, .int .i64 x.w)] u3 := by
            rw [hu3]
            exact (((hHeld.set _ _ _ (List.forall_mem_cons.2 ⟨(by show ¬ g1 = g7; omega), List.forall_mem_cons.2 ⟨(by show ¬ g1 = g7; omega), List.forall_mem_cons.2 ⟨(by show ¬ g2 = g7; omega), List.forall_mem_cons.2 ⟨(by show ¬ g2 = g7; omega), List.forall_mem_cons.2 ⟨(by show ¬ b1 = g7; omega), List.forall_mem_cons.2 ⟨(by show ¬ b1 = g7; omega), List.forall_mem_cons.2 ⟨(by show ¬ b1 = g7; omega), List.forall_mem_cons.2 ⟨(by show ¬ b1 = g7; omega), List.forall_mem_cons.2 ⟨(by show ¬ b2 = g7; omega), List.forall_mem_cons.2 ⟨(by show ¬ b2 = g7; omega), List.forall_mem_cons.2 ⟨(by show ¬ b2 = g7; omega), List.forall_mem_cons.2 ⟨(by show ¬ b2 = g7; omega), fun _ h => by simp at h⟩⟩⟩⟩⟩⟩⟩⟩⟩⟩⟩⟩)).set _ _ _ (List.forall_mem_cons.2 ⟨(by show ¬ g1 = g7; omega), List.forall_mem_cons.2 ⟨(by show ¬ g1 = g7; omega), List.forall_mem_cons.2 ⟨(by show ¬ g2 = g7; omega), List.forall_mem_cons.2 ⟨(by show ¬ g2 = g7; omega), List.forall_mem_cons.2 ⟨(by show ¬ b1 = g7; omega), List.forall_mem_cons.2 ⟨(by show ¬ b1 = g7; omega), List.forall_mem_cons.2 ⟨(by show ¬ b1 = g7; omega), List.forall_mem_cons.2 ⟨(by show ¬ b1 = g7; omega), List.forall_mem_cons.2 ⟨(by show ¬ b2 = g7; omega), List.forall_mem_cons.2 ⟨(by show ¬ b2 = g7; omega), List.forall_mem_cons.2 ⟨(by show ¬ b2 = g7; omega), List.forall_mem_cons.2 ⟨(by show ¬ b2 = g7; omega), fun _ h => by simp at h⟩⟩⟩⟩⟩⟩⟩⟩⟩⟩⟩⟩)).set _ _ _ (List.forall_mem_cons.2 ⟨(by show ¬ g1 = g7; omega), List.forall_mem_cons.2 ⟨(by show ¬ g1 = g7; omega), List.forall_mem_cons.2 ⟨(by show ¬ g2 = g7; omega), List.forall_mem_cons.2 ⟨(by show ¬ g2 = g7; omega), List.forall_mem_cons.2 ⟨(by show ¬ b1 = g7; omega), List.forall_mem_cons.2 ⟨(by show ¬ b1 = g7; omega), List.forall_mem_cons.2 ⟨(by show ¬ b1 = g7; omega), List.forall_mem_cons.2 ⟨(by show ¬ b1 = g7; omega), List.forall_mem_cons.2 ⟨(by show ¬ b2 = g7; omega), List.forall_mem_cons.2 ⟨(by show ¬ b2 = g7; omega), List.forall_mem_cons.2 ⟨(by show ¬ b2 = g7; omega), List.forall_mem_cons.2 ⟨(by show ¬ b2 = g7; omega), fun _ h => by simp at h⟩⟩⟩⟩⟩⟩⟩⟩⟩⟩⟩⟩)).set _ _ _ (List.forall_mem_cons.2 ⟨(by show ¬ g1 = g7; omega), List.forall_mem_cons.2 ⟨(by show ¬ g1 = g7; omega), List.forall_mem_cons.2 ⟨(by show ¬ g2 = g7; omega), List.forall_mem_cons.2 ⟨(by show ¬ g2 = g7; omega), List.forall_mem_cons.2 ⟨(by show ¬ b1 = g7; omega), List.forall_mem_cons.2 ⟨(by show ¬ b1 = g7; omega), List.forall_mem_cons.2 ⟨(by show ¬ b1 = g7; omega), List.forall_mem_cons.2 ⟨(by show ¬ b1 = g7; omega), List.forall_mem_cons.2 ⟨(by show ¬ b2 = g7; omega), List.forall_mem_cons.2 ⟨(by show ¬ b2 = g7; omega), List.forall_mem_cons.2 ⟨(by show ¬ b2 = g7; omega), List.forall_mem_cons.2 ⟨(by show ¬ b2 = g7; omega), fun _ h => by simp at h⟩⟩⟩⟩⟩⟩⟩⟩⟩⟩⟩⟩)
          have Tu3 := Lib.hid (show Below wj.heap.size wj u3 by rw [hu3]; exact (((Tu2.out.setCell (p := ⟨g7, 0, none⟩) lg7 _).setCell (p := ⟨g7, 1, none⟩) lg7 _).setCell (p := ⟨g7, 2, none⟩) lg7 _).setCell (p := ⟨g7, 3, none⟩) lg7 _)
          go_simp
          rw [← hu3]
          clear hu3 k0 k1 k2 k3 f0 f1 f2 f3 k4
          refine hK.out _ _ hKn (fun hHeld => ?_)
          clear hK K
          try simp only [Act.put, sA, sZ, sS]
          refine wpAnyH_ready (rs := [13]) (by kernel_rfl) (by simp) ?_
          refine AllReadyH.cons (List.getElem?_toArray.trans rfl) (fun K hK => ?_) AllReadyH.nil
          obtain ⟨⟨k0, k1, k2, k3⟩, ⟨f0, f1, f2, f3⟩, k4⟩ := Vu3.out.sgbox_all (i := 0) rfl
          dsimp only [zSg, List.length_nil] at k0 k1 k2 k3
          obtain ⟨u4, hu4⟩ : ∃ z, z = (((u3.setCell ⟨g8, 0, none⟩ (.string (bs x.t))).setCell ⟨g8, 1, none⟩ (.slice Bj x.s.length dj)).setCell ⟨g8, 2, none⟩ (.int .i64 x.c)).setCell ⟨g8, 3, none⟩ (.int .i64 x.w) := ⟨_, rfl⟩
          have Vu4 := Lib.hid (show Hp w [sgbox g8 (Bj, dj) x, sgbox g7 (Aj, cj) x, obox g2 nm (some ⟨b2, o2, none⟩) n d, obox g1 nm (some ⟨b1, o1, none⟩) n c] u4 by rw [hu4]; exact Vu3.out.sgbox_put (i := 0) rfl Bj dj x)
          have hKn : Keep [(⟨g1, 0, none⟩, .string (bs nm)), (⟨g1, 1, none⟩, .slice (some ⟨b1, o1, none⟩) n c), (⟨g2, 0, none⟩, .string (bs nm)), (⟨g2, 1, none⟩, .slice (some ⟨b2, o2, none⟩) n d), (⟨b1, o1 + k * 4, none⟩, .string (bs x.t)), (⟨b1, o1 + k * 4 + 1, none⟩, .slice Aj x.s.length cj), (⟨b1, o1 + k * 4 + 2, none⟩, .int .i64 x.c), (⟨b1, o1 + k * 4 + 3, none⟩, .int .i64 x.w), (⟨b2, o2 + k * 4, none⟩, .string (bs x.t)), (⟨b2, o2 + k * 4 + 1, none⟩, .slice Bj x.s.length dj), (⟨b2, o2 + k * 4 + 2, none⟩, .int .i64 x.c), (⟨b2, o2 + k * 4 + 3, none⟩, .int .i64 x.w)] u4 := by
            rw [hu4]
            exact (((hHeld.set _ _ _ (List.forall_mem_cons.2 ⟨(by show ¬ g1 = g8; omega), List.forall_mem_cons.2 ⟨(by show ¬ g1 = g8; omega), List.forall_mem_cons.2 ⟨(by show ¬ g2 = g8; omega), List.forall_mem_cons.2 ⟨(by show ¬ g2 = g8; omega), List.forall_mem_cons.2 ⟨(by show ¬ b1 = g8; omega), List.forall_mem_cons.2 ⟨(by show ¬ b1 = g8; omega), List.forall_mem_cons.2 ⟨(by show ¬ b1 = g8; omega), List.forall_mem_cons.2 ⟨(by show ¬ b1 = g8; omega), List.forall_mem_cons.2 ⟨(by show ¬ b2 = g8; omega), List.forall_mem_cons.2 ⟨(by show ¬ b2 = g8; omega), List.forall_mem_cons.2 ⟨(by show ¬ b2 = g8; omega), List.forall_mem_cons.2 ⟨(by show ¬ b2 = g8; omega), fun _ h => by simp at h⟩⟩⟩⟩⟩⟩⟩⟩⟩⟩⟩⟩)).set _ _ _ (List.forall_mem_cons.2 ⟨(by show ¬ g1 = g8; omega), List.forall_mem_cons.2 ⟨(by show ¬ g1 = g8; omega), List.forall_mem_cons.2 ⟨(by show ¬ g2 = g8; omega), List.forall_mem_cons.2 ⟨(by show ¬ g2 = g8; omega), List.forall_mem_cons.2 ⟨(by show ¬ b1 = g8; omega), List.forall_mem_cons.2 ⟨(by show ¬ b1 = g8; omega), List.forall_mem_cons.2 ⟨(by show ¬ b1 = g8; omega), List.forall_mem_cons.2 ⟨(by show ¬ b1 = g8; omega), List.forall_mem_cons.2 ⟨(by show ¬ b2 = g8; omega), List.forall_mem_cons.2 ⟨(by show ¬ b2 = g8; omega), List.forall_mem_cons.2 ⟨(by show ¬ b2 = g8; omega), List.forall_mem_cons.2 ⟨(by show ¬ b2 = g8; omega), fun _ h => by simp at h⟩⟩⟩⟩⟩⟩⟩⟩⟩⟩⟩⟩)).set _ _ _ (List.forall_mem_cons.2 ⟨(by show ¬ g1 = g8; omega), List.forall_mem_cons.2 ⟨(by show ¬ g1 = g8; omega), List.forall_mem_cons.2 ⟨(by show ¬ g2 = g8; omega), List.forall_mem_cons.2 ⟨(by show ¬ g2 = g8; omega), List.forall_mem_cons.2 ⟨(by show ¬ b1 = g8; omega), List.forall_mem_cons.2 ⟨(by show ¬ b1 = g8; omega), List.forall_mem_cons.2 ⟨(by show ¬ b1 = g8; omega), List.forall_mem_cons.2 ⟨(by show ¬ b1 = g8; omega), List.forall_mem_cons.2 ⟨(by show ¬ b2 = g8; omega), List.forall_mem_cons.2 ⟨(by show ¬ b2 = g8; omega), List.forall_mem_cons.2 ⟨(by show ¬ b2 = g8; omega), List.forall_mem_cons.2 ⟨(by show ¬ b2 = g8; omega), fun _ h => by simp at h⟩⟩⟩⟩⟩⟩⟩⟩⟩⟩⟩⟩)).set _ _ _ (List.forall_mem_cons.2 ⟨(by show ¬ g1 = g8; omega), List.forall_mem_cons.2 ⟨(by show ¬ g1 = g8; omega), List.forall_mem_cons.2 ⟨(by show ¬ g2 = g8; omega), List.forall_mem_cons.2 ⟨(by show ¬ g2 = g8; omega), List.forall_mem_cons.2 ⟨(by show ¬ b1 = g8; omega), List.forall_mem_cons.2 ⟨(by show ¬ b1 = g8; omega), List.forall_mem_cons.2 ⟨(by show ¬ b1 = g8; omega), List.forall_mem_cons.2 ⟨(by show ¬ b1 = g8; omega), List.forall_mem_cons.2 ⟨(by show ¬ b2 = g8; omega), List.forall_mem_cons.2 ⟨(by show ¬ b2 = g8; omega), List.forall_mem_cons.2 ⟨(by show ¬ b2 = g8; omega), List.forall_mem_cons.2 ⟨(by show ¬ b2 = g8; omega), fun _ h => by simp at h⟩⟩⟩⟩⟩⟩⟩⟩⟩⟩⟩⟩)
          have Tu4 := Lib.hid (show Below wj.heap.size wj u4 by rw [hu4]; exact (((Tu3.out.setCell (p := ⟨g8, 0, none⟩) lg8 _).setCell (p := ⟨g8, 1, none⟩) lg8 _).setCell (p := ⟨g8, 2, none⟩) lg8 _).setCell (p := ⟨g8, 3, none⟩) lg8 _)
          go_simp
          rw [← hu4]
          clear hu4 k0 k1 k2 k3 f0 f1 f2 f3 k4
          refine hK.out _ _ hKn (fun hHeld => ?_)
          clear hK K
          try simp only [Act.put, sA, sZ, sS]
          refine wpAnyH_done (by kernel_rfl) ?_ _
          go_wp2_with fail
          go_meet
          exact ⟨g7, g8, rfl, rfl, Vu4.out.pick [1, 0, 2, 3] (by decide) (by simp), Tu4.out⟩
        refine AllReadyH.cons (List.getElem?_toArray.trans rfl) (fun K hK => ?_) AllReadyH.nil
        obtain ⟨g8, hg8⟩ : ∃ z, z = wd.heap.size := ⟨_, rfl⟩
        obtain ⟨u5, hu5⟩ : ∃ z, z = wd.alloc (.cells #[.string ⟨#[]⟩, .slice none 0 0, .int .i64 0, .int .i64 0] 34) := ⟨_, rfl⟩
        have Vu5 := Lib.hid (show Hp w [sgbox g8 (none, 0) zSg, obox g2 nm (some ⟨b2, o2, none⟩) n d, obox g1 nm (some ⟨b1, o1, none⟩) n c] u5 by rw [hu5, hg8]; exact V4d.out.sgbox_new none 0 zSg)
        have Bu5 := Lib.hid (show Below wd.heap.size wd u5 by rw [hu5]; exact bnew _ _)
        have Tu5 := Lib.hid (show Below wj.heap.size wj u5 from btwo Twd.out Bu5.out)
        have lg8 : wj.heap.size ≤ g8 := by rw [hg8]; exact Twd.out.size
        go_simp
        rw [← hu5, ← hg8]
        clear hu5 hg8
        refine hK.out _ _ (hHeld.go Bu5.out) (fun hHeld => ?_)
        clear hK K
        try simp only [Act.put, sA, sZ, sS]
        refine wpAnyH_ready (rs := [10]) (by kernel_rfl) (by simp) ?_
        refine AllReadyH.cons (List.getElem?_toArray.trans rfl) (fun K hK => ?_) AllReadyH.nil
        obtain ⟨g7, hg7⟩ : ∃ z, z = u5.heap.size := ⟨_, rfl⟩
        obtain ⟨u6, hu6⟩ : ∃ z, z = u5.alloc (.cells #[.string ⟨#[]⟩, .slice none 0 0, .int .i64 0, .int .i64 0] 34) := ⟨_, rfl⟩
        have Vu6 := Lib.hid (show Hp w [sgbox g7 (none, 0) zSg, sgbox g8 (none, 0) zSg, obox g2 nm (some ⟨b2, o2, none⟩) n d, obox g1 nm (some ⟨b1, o1, none⟩) n c] u6 by rw [hu6, hg7]; exact Vu5.out.sgbox_new none 0 zSg)
        have Bu6 := Lib.hid (show Below u5.heap.size u5 u6 by rw [hu6]; exact bnew _ _)
        have Tu6 := Lib.hid (show Below wj.heap.size wj u6 from btwo Tu5.out Bu6.out)
        have lg7 : wj.heap.size ≤ g7 := by rw [hg7]; exact Tu5.out.size
        go_simp
        rw [← hu6, ← hg7]
        clear hu6 hg7
        refine hK.out _ _ (hHeld.go Bu6.out) (fun hHeld => ?_)
        clear hK K
        try simp only [Act.put, sA, sZ, sS]
        refine wpAnyH_ready (rs := [12]) (by kernel_rfl) (by simp) ?_
        refine AllReadyH.cons (List.getElem?_toArray.trans rfl) (fun K hK => ?_) AllReadyH.nil
        obtain ⟨⟨k0, k1, k2, k3⟩, ⟨f0, f1, f2, f3⟩, k4⟩ := Vu6.out.sgbox_all (i := 0) rfl
        dsimp only [zSg, List.length_nil] at k0 k1 k2 k3
        obtain ⟨u7, hu7⟩ : ∃ z, z = (((u6.setCell ⟨g7, 0, none⟩ (.string (bs x.t))).setCell ⟨g7, 1, none⟩ (.slice Aj x.s.length cj)).setCell ⟨g7, 2, none⟩ (.int .i64 x.c)).setCell ⟨g7, 3, none⟩ (.int .i64 x.w) := ⟨_, rfl⟩
        have Vu7 := Lib.hid (show Hp w [sgbox g7 (Aj, cj) x, sgbox g8 (none, 0) zSg, obox g2 nm (some ⟨b2, o2, none⟩) n d, obox g1 nm (some ⟨b1, o1, none⟩) n c] u7 by rw [hu7]; exact Vu6.out.sgbox_put (i := 0) rfl Aj cj x)
        have hKn : Keep [(⟨g1, 0, none⟩, .string (bs nm)), (⟨g1, 1, none⟩, .slice (some ⟨b1, o1, none⟩) n c), (⟨g2, 0, none⟩, .string (bs nm)), (⟨g2, 1, none⟩, .slice (some ⟨b2, o2, none⟩) n d), (⟨b1, o1 + k * 4, none⟩, .string (bs x.t)), (⟨b1, o1 + k * 4 + 1, none⟩, .slice Aj x.s.length cj), (⟨b1, o1 + k * 4 + 2, none⟩, .int .i64 x.c), (⟨b1, o1 + k * 4 + 3, none⟩, .int .i64 x.w), (⟨b2, o2 + k * 4, none⟩, .string (bs x.t)), (⟨b2, o2 + k * 4 + 1, none⟩, .slice Bj x.s.length dj), (⟨b2, o2 + k * 4 + 2, none⟩, .int .i64 x.c), (⟨b2, o2 + k * 4 + 3, none⟩, .int .i64 x.w)] u7 := by
          rw [hu7]
          exact (((hHeld.set _ _ _ (List.forall_mem_cons.2 ⟨(by show ¬ g1 = g7; omega), List.forall_mem_cons.2 ⟨(by show ¬ g1 = g7; omega), List.forall_mem_cons.2 ⟨(by show ¬ g2 = g7; omega), List.forall_mem_cons.2 ⟨(by show ¬ g2 = g7; omega), List.forall_mem_cons.2 ⟨(by show ¬ b1 = g7; omega), List.forall_mem_cons.2 ⟨(by show ¬ b1 = g7; omega), List.forall_mem_cons.2 ⟨(by show ¬ b1 = g7; omega), List.forall_mem_cons.2 ⟨(by show ¬ b1 = g7; omega), List.forall_mem_cons.2 ⟨(by show ¬ b2 = g7; omega), List.forall_mem_cons.2 ⟨(by show ¬ b2 = g7; omega), List.forall_mem_cons.2 ⟨(by show ¬ b2 = g7; omega), List.forall_mem_cons.2 ⟨(by show ¬ b2 = g7; omega), fun _ h => by simp at h⟩⟩⟩⟩⟩⟩⟩⟩⟩⟩⟩⟩)).set _ _ _ (List.forall_mem_cons.2 ⟨(by show ¬ g1 = g7; omega), List.forall_mem_cons.2 ⟨(by show ¬ g1 = g7; omega), List.forall_mem_cons.2 ⟨(by show ¬ g2 = g7; omega), List.forall_mem_cons.2 ⟨(by show ¬ g2 = g7; omega), List.forall_mem_cons.2 ⟨(by show ¬ b1 = g7; omega), List.forall_mem_cons.2 ⟨(by show ¬ b1 = g7; omega), List.forall_mem_cons.2 ⟨(by show ¬ b1 = g7; omega), List.forall_mem_cons.2 ⟨(by show ¬ b1 = g7; omega), List.forall_mem_cons.2 ⟨(by show ¬ b2 = g7; omega), List.forall_mem_cons.2 ⟨(by show ¬ b2 = g7; omega), List.forall_mem_cons.2 ⟨(by show ¬ b2 = g7; omega), List.forall_mem_cons.2 ⟨(by show ¬ b2 = g7; omega), fun _ h => by simp at h⟩⟩⟩⟩⟩⟩⟩⟩⟩⟩⟩⟩)).set _ _ _ (List.forall_mem_cons.2 ⟨(by show ¬ g1 = g7; omega), List.forall_mem_cons.2 ⟨(by show ¬ g1 = g7; omega), List.forall_mem_cons.2 ⟨(by show ¬ g2 = g7; omega), List.forall_mem_cons.2 ⟨(by show ¬ g2 = g7; omega), List.forall_mem_cons.2 ⟨(by show ¬ b1 = g7; omega), List.forall_mem_cons.2 ⟨(by show ¬ b1 = g7; omega), List.forall_mem_cons.2 ⟨(by show ¬ b1 = g7; omega), List.forall_mem_cons.2 ⟨(by show ¬ b1 = g7; omega), List.forall_mem_cons.2 ⟨(by show ¬ b2 = g7; omega), List.forall_mem_cons.2 ⟨(by show ¬ b2 = g7; omega), List.forall_mem_cons.2 ⟨(by show ¬ b2 = g7; omega), List.forall_mem_cons.2 ⟨(by show ¬ b2 = g7; omega), fun _ h => by simp at h⟩⟩⟩⟩⟩⟩⟩⟩⟩⟩⟩⟩)).set _ _ _ (List.forall_mem_cons.2 ⟨(by show ¬ g1 = g7; omega), List.forall_mem_cons.2 ⟨(by show ¬ g1 = g7; omega), List.forall_mem_cons.2 ⟨(by show ¬ g2 = g7; omega), List.forall_mem_cons.2 ⟨(by show ¬ g2 = g7; omega), List.forall_mem_cons.2 ⟨(by show ¬ b1 = g7; omega), List.forall_mem_cons.2 ⟨(by show ¬ b1 = g7; omega), List.forall_mem_cons.2 ⟨(by show ¬ b1 = g7; omega), List.forall_mem_cons.2 ⟨(by show ¬ b1 = g7; omega), List.forall_mem_cons.2 ⟨(by show ¬ b2 = g7; omega), List.forall_mem_cons.2 ⟨(by show ¬ b2 = g7; omega), List.forall_mem_cons.2 ⟨(by show ¬ b2 = g7; omega), List.forall_mem_cons.2 ⟨(by show ¬ b2 = g7; omega), fun _ h => by simp at h⟩⟩⟩⟩⟩⟩⟩⟩⟩⟩⟩⟩)
        have Tu7 := Lib.hid (show Below wj.heap.size wj u7 by rw [hu7]; exact (((Tu6.out.setCell (p := ⟨g7, 0, none⟩) lg7 _).setCell (p := ⟨g7, 1, none⟩) lg7 _).setCell (p := ⟨g7, 2, none⟩) lg7 _).setCell (p := ⟨g7, 3, none⟩) lg7 _)
        go_simp
        rw [← hu7]
        clear hu7 k0 k1 k2 k3 f0 f1 f2 f3 k4
        refine hK.out _ _ hKn (fun hHeld => ?_)
        clear hK K
        try simp only [Act.put, sA, sZ, sS]
        refine wpAnyH_ready (rs := [13]) (by kernel_rfl) (by simp) ?_
        refine AllReadyH.cons (List.getElem?_toArray.trans rfl) (fun K hK => ?_) AllReadyH.nil
        obtain ⟨⟨k0, k1, k2, k3⟩, ⟨f0, f1, f2, f3⟩, k4⟩ := Vu7.out.sgbox_all (i := 1) rfl
        dsimp only [zSg, List.length_nil] at k0 k1 k2 k3
        obtain ⟨u8, hu8⟩ : ∃ z, z = (((u7.setCell ⟨g8, 0, none⟩ (.string (bs x.t))).setCell ⟨g8, 1, none⟩ (.slice Bj x.s.length dj)).setCell ⟨g8, 2, none⟩ (.int .i64 x.c)).setCell ⟨g8, 3, none⟩ (.int .i64 x.w) := ⟨_, rfl⟩
        have Vu8 := Lib.hid (show Hp w [sgbox g7 (Aj, cj) x, sgbox g8 (Bj, dj) x, obox g2 nm (some ⟨b2, o2, none⟩) n d, obox g1 nm (some ⟨b1, o1, none⟩) n c] u8 by rw [hu8]; exact Vu7.out.sgbox_put (i := 1) rfl Bj dj x)
        have hKn : Keep [(⟨g1, 0, none⟩, .string (bs nm)), (⟨g1, 1, none⟩, .slice (some ⟨b1, o1, none⟩) n c), (⟨g2, 0, none⟩, .string (bs nm)), (⟨g2, 1, none⟩, .slice (some ⟨b2, o2, none⟩) n d), (⟨b1, o1 + k * 4, none⟩, .string (bs x.t)), (⟨b1, o1 + k * 4 + 1, none⟩, .slice Aj x.s.length cj), (⟨b1, o1 + k * 4 + 2, none⟩, .int .i64 x.c), (⟨b1, o1 + k * 4 + 3, none⟩, .int .i64 x.w), (⟨b2, o2 + k * 4, none⟩, .string (bs x.t)), (⟨b2, o2 + k * 4 + 1, none⟩, .slice Bj x.s.length dj), (⟨b2, o2 + k * 4 + 2, none⟩, .int .i64 x.c), (⟨b2, o2 + k * 4 + 3, none⟩, .int .i64 x.w)] u8 := by
          rw [hu8]
          exact (((hHeld.set _ _ _ (List.forall_mem_cons.2 ⟨(by show ¬ g1 = g8; omega), List.forall_mem_cons.2 ⟨(by show ¬ g1 = g8; omega), List.forall_mem_cons.2 ⟨(by show ¬ g2 = g8; omega), List.forall_mem_cons.2 ⟨(by show ¬ g2 = g8; omega), List.forall_mem_cons.2 ⟨(by show ¬ b1 = g8; omega), List.forall_mem_cons.2 ⟨(by show ¬ b1 = g8; omega), List.forall_mem_cons.2 ⟨(by show ¬ b1 = g8; omega), List.forall_mem_cons.2 ⟨(by show ¬ b1 = g8; omega), List.forall_mem_cons.2 ⟨(by show ¬ b2 = g8; omega), List.forall_mem_cons.2 ⟨(by show ¬ b2 = g8; omega), List.forall_mem_cons.2 ⟨(by show ¬ b2 = g8; omega), List.forall_mem_cons.2 ⟨(by show ¬ b2 = g8; omega), fun _ h => by simp at h⟩⟩⟩⟩⟩⟩⟩⟩⟩⟩⟩⟩)).set _ _ _ (List.forall_mem_cons.2 ⟨(by show ¬ g1 = g8; omega), List.forall_mem_cons.2 ⟨(by show ¬ g1 = g8; omega), List.forall_mem_cons.2 ⟨(by show ¬ g2 = g8; omega), List.forall_mem_cons.2 ⟨(by show ¬ g2 = g8; omega), List.forall_mem_cons.2 ⟨(by show ¬ b1 = g8; omega), List.forall_mem_cons.2 ⟨(by show ¬ b1 = g8; omega), List.forall_mem_cons.2 ⟨(by show ¬ b1 = g8; omega), List.forall_mem_cons.2 ⟨(by show ¬ b1 = g8; omega), List.forall_mem_cons.2 ⟨(by show ¬ b2 = g8; omega), List.forall_mem_cons.2 ⟨(by show ¬ b2 = g8; omega), List.forall_mem_cons.2 ⟨(by show ¬ b2 = g8; omega), List.forall_mem_cons.2 ⟨(by show ¬ b2 = g8; omega), fun _ h => by simp at h⟩⟩⟩⟩⟩⟩⟩⟩⟩⟩⟩⟩)).set _ _ _ (List.forall_mem_cons.2 ⟨(by show ¬ g1 = g8; omega), List.forall_mem_cons.2 ⟨(by show ¬ g1 = g8; omega), List.forall_mem_cons.2 ⟨(by show ¬ g2 = g8; omega), List.forall_mem_cons.2 ⟨(by show ¬ g2 = g8; omega), List.forall_mem_cons.2 ⟨(by show ¬ b1 = g8; omega), List.forall_mem_cons.2 ⟨(by show ¬ b1 = g8; omega), List.forall_mem_cons.2 ⟨(by show ¬ b1 = g8; omega), List.forall_mem_cons.2 ⟨(by show ¬ b1 = g8; omega), List.forall_mem_cons.2 ⟨(by show ¬ b2 = g8; omega), List.forall_mem_cons.2 ⟨(by show ¬ b2 = g8; omega), List.forall_mem_cons.2 ⟨(by show ¬ b2 = g8; omega), List.forall_mem_cons.2 ⟨(by show ¬ b2 = g8; omega), fun _ h => by simp at h⟩⟩⟩⟩⟩⟩⟩⟩⟩⟩⟩⟩)).set _ _ _ (List.forall_mem_cons.2 ⟨(by show ¬ g1 = g8; omega), List.forall_mem_cons.2 ⟨(by show ¬ g1 = g8; omega), List.forall_mem_cons.2 ⟨(by show ¬ g2 = g8; omega), List.forall_mem_cons.2 ⟨(by show ¬ g2 = g8; omega), List.forall_mem_cons.2 ⟨(by show ¬ b1 = g8; omega), List.forall_mem_cons.2 ⟨(by show ¬ b1 = g8; omega), List.forall_mem_cons.2 ⟨(by show ¬ b1 = g8; omega), List.forall_mem_cons.2 ⟨(by show ¬ b1 = g8; omega), List.forall_mem_cons.2 ⟨(by show ¬ b2 = g8; omega), List.forall_mem_cons.2 ⟨(by show ¬ b2 = g8; omega), List.forall_mem_cons.2 ⟨(by show ¬ b2 = g8; omega), List.forall_mem_cons.2 ⟨(by show ¬ b2 = g8; omega), fun _ h => by simp at h⟩⟩⟩⟩⟩⟩⟩⟩⟩⟩⟩⟩)
        have Tu8 := Lib.hid (show Below wj.heap.size wj u8 by rw [hu8]; exact (((Tu7.out.setCell (p := ⟨g8, 0, none⟩) lg8 _).setCell (p := ⟨g8, 1, none⟩) lg8 _).setCell (p := ⟨g8, 2, none⟩) lg8 _).setCell (p := ⟨g8, 3, none⟩) lg8 _)
        go_simp
        rw [← hu8]
        clear hu8 k0 k1 k2 k3 f0 f1 f2 f3 k4
        refine hK.out _ _ hKn (fun hHeld => ?_)
        clear hK K
        try simp only [Act.put, sA, sZ, sS]
        refine wpAnyH_done (by kernel_rfl) ?_ _
        go_wp2_with fail
        go_meet
        exact ⟨g7, g8, rfl, rfl, Vu8.out.pick [0, 1, 2, 3] (by decide) (by simp), Tu8.out⟩
      case rest =>
        obtain ⟨g7, g8, rfl, rfl, hV5, hB5⟩ := hcut
        have V5 := Lib.hid hV5
        have HC5 := Lib.hid (HC.out.below hB5)
        have HD5 := Lib.hid (HD.out.below hB5)
        obtain ⟨u0, u1, u2, u3, u4⟩ := V5.out.sgbox_at (i := 0) rfl
        obtain ⟨v0, v1, v2, v3, v4⟩ := V5.out.sgbox_at (i := 1) rfl
        dsimp only at u1 v1
        clear hV5 hB5 x0 x1 x2 y0 y1 y2 c0 c1 c2 c3 d0 d1 d2 d3 hb hb'
        go_wp2_with fail
        refine (rsame_any x.s x.s _ _ cj dj Aj Bj _ rfl rfl (by omega) (by omega) HC5.out HD5.out).mono ?_
        rintro e w6 ⟨rfl, hb6⟩
        have V6 := Lib.hid (V5.out.go hb6)
        rw [eqB_yes rfl]
        clear hb6
        go_wp2_with fail
        go_roundw
        case rel => exact ⟨k + 1, by omega, by go_num, V6.out.tail.tail⟩
        case measure => simp [intOf]; omega
    · go_wp2_with fail
      go_ret
      exact ⟨rfl, V4.out.below⟩
end Go.Proofs.YtfgnekbkcmpdiaaGreatDoor
