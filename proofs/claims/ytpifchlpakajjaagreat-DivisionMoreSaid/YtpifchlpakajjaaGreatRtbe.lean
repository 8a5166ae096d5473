/- Several texts in one: Zh. -/
import Derived.Test.YtpifchlpakajjaaGreatRtbd
import Derived.Laws.EntriesVeiled
namespace Go.Proofs.YtpifchlpakajjaaGreat
open Go.RowKit
set_option linter.unusedVariables false
set_option linter.unusedSimpArgs false
set_option maxRecDepth 100000

theorem Hp.heads {W w : World} {l l2 : List Itm} (h : Hp W (l ++ l2) w) : Hp W l w := h.sub (fun i => i) (fun _ _ e => e) (fun i it hi => by rw [List.getElem?_append_left (List.getElem?_eq_some_iff.1 hi).1]; exact hi)
def DvPost (R : List (List Nat)) (w : World) (e : Ending) (w' : World) : Prop := ∃ Q q e' ps, e = .returned (.slice Q q e') ∧ ps.length = q ∧ ps.map (·.2) = R ∧ Hp w (hdrP Q q e' ps :: rowP ps) w'
set_option maxHeartbeats 4000000 in
theorem list_any (nm : List UInt8) (L : List Sg) (A : Option Addr) (n c : Nat) (u : List UInt8) (g : Nat) (w : World) (hv : (vO nm L).2 = 0) (hl : L.length = n) (hA : SgnIn w A L) (hS : SrAt w g nm A n c u (FB L u 0)) (hu0 : 0 < u.length) (hu : u.length ≤ 16) (hd : (dvs L u).length ≤ 200) :
    Calls Tryz.prog 38 #[.pointer (some ⟨g, 0, none⟩)] w (DvPost (dvs L u) w) := by
  obtain ⟨g1, hg1⟩ : ∃ z, z = w.heap.size := ⟨_, rfl⟩
  obtain ⟨W1, hW1⟩ : ∃ z, z = w.alloc (.cells #[.pointer (some ⟨g, 0, none⟩)] 63) := ⟨_, rfl⟩
  have V1 := Lib.hid (show Hp w [box 63 g1 [.pointer (some ⟨g, 0, none⟩)]] W1 by rw [hW1, hg1]; exact (Hp.start w).box_new _ _)
  have HW1 := Lib.hid hW1
  have HG1 := Lib.hid hg1
  have hp1 := (V1.out.box_at (i := 0) (j := 0) rfl rfl).1
  have hg1' := (V1.out.box_at (i := 0) (j := 0) rfl rfl).2.2
  have HP1 := Lib.hid (And.intro hg1' hp1)
  have HS1 := Lib.hid (hS.below V1.out.below)
  have HEX := Lib.hid (fun g3 g4 => extend_any nm L A n c u g g1 g3 g4 W1 hv hl (hA.below V1.out.below) HS1.out hg1' hp1 hu u.length 0 0 (fun _ => true) none 0 [] none 0 0 [] [])
  have HD := Lib.hid (show (exL L (u.drop 0) 0 (fun _ => true)) = dvs L u by rw [List.drop_zero]; exact exL_top hu0)
  have HDL := Lib.hid hd
  obtain ⟨g3, hg3⟩ : ∃ z, z = W1.heap.size := ⟨_, rfl⟩
  obtain ⟨W2, hW2⟩ : ∃ z, z = W1.alloc (.cells #[.slice none 0 0] 27) := ⟨_, rfl⟩
  have V2 := Lib.hid (show Hp W1 [dvx g3 none 0 0] W2 by rw [hW2, hg3]; exact (Hp.start W1).box_new _ _)
  have HW2 := Lib.hid hW2
  have HG3 := Lib.hid hg3
  clear hW1 hg1 hW2 hg3 hp1 hg1' hv hl hA hS hd hu hu0
  go_enter Tryz.func38, Tryz.ntmps38
  go_upto_region 1 with fail
  rw [← HG1.out, ← HW1.out]
  go_upto_region 2 with fail
  rw [← HG3.out, ← HW2.out]
  go_upto_region 3 with fail
  obtain ⟨g4, hg4⟩ : ∃ z, z = W2.heap.size := ⟨_, rfl⟩
  obtain ⟨W3, hW3⟩ : ∃ z, z = W2.alloc (.cells #[.nilFunc] 102) := ⟨_, rfl⟩
  have VN := Lib.hid (show Hp W1 (box 102 g4 [.nilFunc] :: dvx g3 none 0 0 :: []) W3 by rw [hW3, hg4]; exact V2.out.box_new _ _)
  rw [← hW3, ← hg4]
  obtain ⟨n0, n1, n2⟩ := VN.out.box_at (i := 0) (j := 0) rfl rfl
  obtain ⟨W4, hW4⟩ : ∃ z, z = W3.setCell ⟨g4, 0, none⟩ (EVal g1 g3 g4) := ⟨_, rfl⟩
  have V3 := Lib.hid (show Hp W1 (exx g1 g3 g4 :: dvx g3 none 0 0 :: []) W4 by rw [hW4]; exact VN.out.box_set (i := 0) rfl 0 (EVal g1 g3 g4))
  have HW4 := Lib.hid hW4
  clear hW4 hg4 hW3
  go_upto_region 4 with fail
  rw [← HW4.out]
  clear n0 n1 n2
  have V4 := Lib.hid (show Hp W1 (dvx g3 none 0 0 :: hdrP none 0 0 [] :: exx g1 g3 g4 :: nums none 0 0 (dI []) :: ([] ++ rowP [])) W4 from
    Hp.front (l := [_, _]) (Hp.sink (l := [hdrP none 0 0 [], exx g1 g3 g4, dvx g3 none 0 0]) (l2 := []) ((V3.out.nil_row (hdrP none 0 0 []) rfl rfl rfl).nil_row (nums none 0 0 (dI [])) rfl rfl rfl)))
  obtain ⟨h0, h1, h2, h3, h4⟩ := HS1.out
  obtain ⟨x0, hx0⟩ : ∃ z, z = oA L u 0 0 (fun _ => true) 0 := ⟨_, rfl⟩
  obtain ⟨x1, hx1⟩ : ∃ z, z = oA L u 0 0 (fun _ => true) 1 := ⟨_, rfl⟩
  obtain ⟨x2, hx2⟩ : ∃ z, z = oA L u 0 0 (fun _ => true) 2 := ⟨_, rfl⟩
  have hfo : ∀ k, FB L u 0 0 0 k = oA L u 0 0 (fun _ => true) k := fun k => by rw [FB_on (Nat.le_refl _) (Nat.zero_le _)]; unfold oA; rw [if_pos rfl]
  have q0 := h4 0 0 0 (by decide) (by decide) (by decide)
  have q1 := h4 0 0 1 (by decide) (by decide) (by decide)
  have q2 := h4 0 0 2 (by decide) (by decide) (by decide)
  rw [hfo, ← hx0] at q0
  rw [hfo, ← hx1] at q1
  rw [hfo, ← hx2] at q2
  have HQ0 := Lib.hid (And.intro h0 q0)
  have HQ1 := Lib.hid (And.intro h0 q1)
  have HQ2 := Lib.hid (And.intro h0 q2)
  have HC := Lib.hid (fun (w' : World) (h' : Hp W1 (dvx g3 none 0 0 :: hdrP none 0 0 [] :: exx g1 g3 g4 :: nums none 0 0 (dI []) :: ([] ++ rowP [])) w') => (show Calls Tryz.prog 68 #[.slice none 0 0, .int .i64 0, .int .i64 0, .agg #[.int .i64 (x0 : Int), .int .i64 (x1 : Int), .int .i64 (x2 : Int)], .pointer (some ⟨g1, 0, none⟩), .pointer (some ⟨g3, 0, none⟩), .pointer (some ⟨g4, 0, none⟩)] w' (ExtPost W1 g1 g3 g4 (nums none 0 0 (dI [])) [] (dvs L u)) by
    have h := HEX.out g3 g4 w' (by omega) (Nat.zero_le _) (by decide) (Nat.zero_le _) rfl (by rw [HD.out]; have := HDL.out; omega) h'
    rw [HD.out, ← hx0, ← hx1, ← hx2] at h
    have e : (List.map (fun x : Prow => x.2) [] ++ (dvs L u).map ([] ++ ·)) = dvs L u := by simp
    rw [e] at h
    exact h))
  clear h0 h1 h2 h3 h4 hx0 hx1 hx2 hfo q0 q1 q2 HS1 HEX
  have hKp : Keep [(⟨g4, 0, none⟩, EVal g1 g3 g4), (⟨g1, 0, none⟩, .pointer (some ⟨g, 0, none⟩)), (⟨g, 3, none⟩, .int .i64 (x0 : Int)), (⟨g, 4, none⟩, .int .i64 (x1 : Int)), (⟨g, 5, none⟩, .int .i64 (x2 : Int))] W4 := List.forall_mem_cons.2 ⟨⟨(V4.out.box_at (i := 2) (j := 0) rfl rfl).1, (V4.out.box_at (i := 2) (j := 0) rfl rfl).2.2⟩, List.forall_mem_cons.2 ⟨⟨(V4.out.below.cell (p := ⟨g1, 0, none⟩) HP1.out.1).trans HP1.out.2, Nat.lt_of_lt_of_le HP1.out.1 V4.out.below.size⟩, List.forall_mem_cons.2 ⟨⟨(V4.out.below.cell (p := ⟨g, 3, none⟩) HQ0.out.1).trans HQ0.out.2, Nat.lt_of_lt_of_le HQ0.out.1 V4.out.below.size⟩, List.forall_mem_cons.2 ⟨⟨(V4.out.below.cell (p := ⟨g, 4, none⟩) HQ1.out.1).trans HQ1.out.2, Nat.lt_of_lt_of_le HQ1.out.1 V4.out.below.size⟩, List.forall_mem_cons.2 ⟨⟨(V4.out.below.cell (p := ⟨g, 5, none⟩) HQ2.out.1).trans HQ2.out.2, Nat.lt_of_lt_of_le HQ2.out.1 V4.out.below.size⟩, fun _ h => by simp at h⟩⟩⟩⟩⟩
  refine wp_region_held_drew (S := Keep _) (by kernel_rfl) hKp.drew (fun hHeld => ?_)
  obtain ⟨wf, hwf⟩ : ∃ z, z = W4.drew := ⟨_, rfl⟩
  have Vwf := Lib.hid (show Hp W1 (dvx g3 none 0 0 :: hdrP none 0 0 [] :: exx g1 g3 g4 :: nums none 0 0 (dI []) :: ([] ++ rowP [])) wf by rw [hwf]; exact V4.out.go (bdrew _))
  have Bwf := Lib.hid (show Below W4.heap.size W4 wf by rw [hwf]; exact bdrew _)
  rw [← hwf] at hHeld ⊢
  clear hwf hKp
  refine tk 0 ?_ rfl ?_ ?_; rotate_left
  · intro wl hSw
    have hSw : Keep _ wl := hSw
    have k0 := (hSw _ (.head _)).1
    dsimp only at k0
    clear hSw
    go_simp
    try (with_reducible rfl)
  try simp only [Act.put, sA, sZ, sS]
  refine tk 1 ?_ rfl ?_ ?_; rotate_left
  · intro wl hSw
    have hSw : Keep _ wl := hSw
    have k0 := (hSw _ (.tail _ (.head _))).1
    dsimp only at k0
    clear hSw
    go_simp
    try (with_reducible rfl)
  try simp only [Act.put, sA, sZ, sS]
  refine tk 2 ?_ rfl ?_ ?_; rotate_left; focus (intro w hSw; clear hSw; go_simp; try (with_reducible rfl))
  try simp only [Act.put, sA, sZ, sS]
  refine tk 3 ?_ rfl ?_ ?_; rotate_left; focus (intro w hSw; clear hSw; go_simp; try (with_reducible rfl))
  try simp only [Act.put, sA, sZ, sS]
  refine tk 4 ?_ rfl ?_ ?_; rotate_left; focus (intro w hSw; clear hSw; go_simp; try (with_reducible rfl))
  try simp only [Act.put, sA, sZ, sS]
  refine tk 5 ?_ rfl ?_ ?_; rotate_left; focus (intro w hSw; clear hSw; go_simp; try (with_reducible rfl))
  try simp only [Act.put, sA, sZ, sS]
  refine tk 6 ?_ rfl ?_ ?_; rotate_left
  · intro wl hSw
    have hSw : Keep _ wl := hSw
    have k0 := (hSw _ (.tail _ (.tail _ (.head _)))).1
    have k1 := (hSw _ (.tail _ (.tail _ (.tail _ (.head _))))).1
    have k2 := (hSw _ (.tail _ (.tail _ (.tail _ (.tail _ (.head _)))))).1
    dsimp only at k0 k1 k2
    clear hSw
    go_simp
    try (with_reducible rfl)
  try simp only [Act.put, sA, sZ, sS]
  refine wpAnyH_ready (rs := [7]) (by kernel_rfl) (by simp) ?_
  refine AllReadyH.cons (List.getElem?_toArray.trans rfl) (fun K hK => ?_) AllReadyH.nil
  go_simp
  refine (HC.out _ Vwf.out).mono ?_
  rintro r w20 ⟨rfl, Q, q, e2, ps, hpl, hpe, hp⟩
  have V20 := Lib.hid (show Hp W1 (dvx g3 Q q e2 :: hdrP Q q e2 ps :: exx g1 g3 g4 :: nums none 0 0 (dI []) :: ([] ++ rowP ps)) w20 from hp)
  have HPL := Lib.hid hpl
  have HPE := Lib.hid hpe
  clear hpl hpe hp
  try go_wp2_with fail
  refine hK.out _ _ (List.forall_mem_cons.2 ⟨⟨(V20.out.box_at (i := 2) (j := 0) rfl rfl).1, (V20.out.box_at (i := 2) (j := 0) rfl rfl).2.2⟩, List.forall_mem_cons.2 ⟨⟨(V20.out.below.cell (p := ⟨g1, 0, none⟩) HP1.out.1).trans HP1.out.2, Nat.lt_of_lt_of_le HP1.out.1 V20.out.below.size⟩, List.forall_mem_cons.2 ⟨⟨(V20.out.below.cell (p := ⟨g, 3, none⟩) HQ0.out.1).trans HQ0.out.2, Nat.lt_of_lt_of_le HQ0.out.1 V20.out.below.size⟩, List.forall_mem_cons.2 ⟨⟨(V20.out.below.cell (p := ⟨g, 4, none⟩) HQ1.out.1).trans HQ1.out.2, Nat.lt_of_lt_of_le HQ1.out.1 V20.out.below.size⟩, List.forall_mem_cons.2 ⟨⟨(V20.out.below.cell (p := ⟨g, 5, none⟩) HQ2.out.1).trans HQ2.out.2, Nat.lt_of_lt_of_le HQ2.out.1 V20.out.below.size⟩, fun _ h => by simp at h⟩⟩⟩⟩⟩) (fun hHeld => ?_)
  clear hK K
  try simp only [Act.put, sA, sZ, sS]
  refine wpAnyH_done (by kernel_rfl) ?_ _
  clear hHeld
  have xq := (V20.out.box_at (i := 0) (j := 0) rfl rfl).1
  have VF := Lib.hid (show Hp w (hdrP Q q e2 ps :: rowP ps) w20 from (V1.out.join (Hp.out1 (a := [hdrP Q q e2 ps]) (x := exx g1 g3 g4) (c := rowP ps) (Hp.out1 (a := [hdrP Q q e2 ps, exx g1 g3 g4]) (x := nums none 0 0 (dI [])) (c := rowP ps) V20.out.tail))).heads (l := hdrP Q q e2 ps :: rowP ps))
  go_wp2_with fail
  go_ret
  exact ⟨Q, q, e2, ps, rfl, HPL.out, HPE.out, VF.out⟩
end Go.Proofs.YtpifchlpakajjaaGreat
