/- Several texts in one: Zh, Sb, Sa. -/
import Derived.Test.YtjamfcihjendiaaGreatRabe
import Derived.Laws.EntriesVeiled
import Derived.WalkKit
import Derived.Test.YtjamfcihjendiaaGreatRaaf
namespace Go.Proofs.YtjamfcihjendiaaGreat
open Go.RowKit
set_option linter.unusedVariables false
set_option linter.unusedSimpArgs false
set_option maxRecDepth 100000

theorem Hp.heads {W w : World} {l l2 : List Itm} (h : Hp W (l ++ l2) w) : Hp W l w := h.sub (fun i => i) (fun _ _ e => e) (fun i it hi => by rw [List.getElem?_append_left (List.getElem?_eq_some_iff.1 hi).1]; exact hi)
def DvPost (R : List (List Nat)) (w : World) (e : Ending) (w' : World) : Prop := ∃ Q q e' ps, e = .returned (.slice Q q e') ∧ ps.length = q ∧ ps.map (·.2) = R ∧ Hp w (hdrP Q q e' ps :: rowP ps) w'
set_option maxHeartbeats 4000000 in
theorem list_any (nm : List UInt8) (L : List Sg) (A : Option Addr) (n c : Nat) (u : List UInt8) (g : Nat) (w : World) (hv : (vO nm L).2 = 0) (hl : L.length = n) (hA : SgnIn w A L) (hS : SrAt w g nm A n c u (FB L u 0)) (hu0 : 0 < u.length) (hu : u.length ≤ 16) (hd : (dvs L u).length ≤ 200) :
    Calls Tryz.prog 19 #[.pointer (some ⟨g, 0, none⟩)] w (DvPost (dvs L u) w) := by
  obtain ⟨g1, hg1⟩ : ∃ z, z = w.heap.size := ⟨_, rfl⟩
  obtain ⟨W1, hW1⟩ : ∃ z, z = w.alloc (.cells #[.pointer (some ⟨g, 0, none⟩)] 43) := ⟨_, rfl⟩
  have V1 := Lib.hid (show Hp w [box 43 g1 [.pointer (some ⟨g, 0, none⟩)]] W1 by rw [hW1, hg1]; exact (Hp.start w).box_new _ _)
  have HW1 := Lib.hid hW1
  have HG1 := Lib.hid hg1
  have hp1 := (V1.out.box_at (i := 0) (j := 0) rfl rfl).1
  have hg1' := (V1.out.box_at (i := 0) (j := 0) rfl rfl).2.2
  have HP1 := Lib.hid (And.intro hg1' hp1)
  have HS1 := Lib.hid (hS.below V1.out.below)
  have HEX := Lib.hid (fun g3 g4 => extend_any nm L A n c u g g1 g3 g4 W1 hv hl (hA.below V1.out.below) HS1.out hg1' hp1 hu u.length 0 0 (fun _ => true) none 0 [] none 0 0 [] [])
  have HD := Lib.hid (show (exL L (u.drop 0) 0 (fun _ => true)) = dvs L u by rw [List.drop_zero]; exact exL_top hu0)
  have HDL := Lib.hid hd
  obtain ⟨g3, hg3⟩ : ∃ z, z = W1.heap.size := ⟨_, rfl⟩
  obtain ⟨W2, hW2⟩ : ∃ z, z = W1.alloc (.cells #[.slice none 0 0] 27) := ⟨_, rfl⟩
  have V2 := Lib.hid (show Hp W1 [dvx g3 none 0 0] W2 by rw [hW2, hg3]; exact (Hp.start W1).box_new _ _)
  have HW2 := Lib.hid hW2
  have HG3 := Lib.hid hg3
  clear hW1 hg1 hW2 hg3 hp1 hg1' hv hl hA hS hd hu hu0
  go_enter Tryz.func19, Tryz.ntmps19
  go_upto_region 1 with fail
  rw [← HG1.out, ← HW1.out]
  go_upto_region 2 with fail
  rw [← HG3.out, ← HW2.out]
  go_upto_region 3 with fail
  obtain ⟨g4, hg4⟩ : ∃ z, z = W2.heap.size := ⟨_, rfl⟩
  obtain ⟨W3, hW3⟩ : ∃ z, z = W2.alloc (.cells #[.nilFunc] 73) := ⟨_, rfl⟩
  have VN := Lib.hid (show Hp W1 (box 73 g4 [.nilFunc] :: dvx g3 none 0 0 :: []) W3 by rw [hW3, hg4]; exact V2.out.box_new _ _)
  rw [← hW3, ← hg4]
  obtain ⟨n0, n1, n2⟩ := VN.out.box_at (i := 0) (j := 0) rfl rfl
  obtain ⟨W4, hW4⟩ : ∃ z, z = W3.setCell ⟨g4, 0, none⟩ (EVal g1 g3 g4) := ⟨_, rfl⟩
  have V3 := Lib.hid (show Hp W1 (exx g1 g3 g4 :: dvx g3 none 0 0 :: []) W4 by rw [hW4]; exact VN.out.box_set (i := 0) rfl 0 (EVal g1 g3 g4))
  have HW4 := Lib.hid hW4
  clear hW4 hg4 hW3
  go_upto_region 4 with fail
  rw [← HW4.out]
  clear n0 n1 n2
  have V4 := Lib.hid (show Hp W1 (dvx g3 none 0 0 :: hdrP none 0 0 [] :: exx g1 g3 g4 :: nums none 0 0 (dI []) :: ([] ++ rowP [])) W4 from
    Hp.front (l := [_, _]) (Hp.sink (l := [hdrP none 0 0 [], exx g1 g3 g4, dvx g3 none 0 0]) (l2 := []) ((V3.out.nil_row (hdrP none 0 0 []) rfl rfl rfl).nil_row (nums none 0 0 (dI [])) rfl rfl rfl)))
  obtain ⟨h0, h1, h2, h3, h4⟩ := HS1.out
  obtain ⟨x0, hx0⟩ : ∃ z, z = oA L u 0 0 (fun _ => true) 0 := ⟨_, rfl⟩
  obtain ⟨x1, hx1⟩ : ∃ z, z = oA L u 0 0 (fun _ => true) 1 := ⟨_, rfl⟩
  obtain ⟨x2, hx2⟩ : ∃ z, z = oA L u 0 0 (fun _ => true) 2 := ⟨_, rfl⟩
  have hfo : ∀ k, FB L u 0 0 0 k = oA L u 0 0 (fun _ => true) k := fun k => by rw [FB_on (Nat.le_refl _) (Nat.zero_le _)]; unfold oA; rw [if_pos rfl]
  have q0 := h4 0 0 0 (by decide) (by decide) (by decide)
  have q1 := h4 0 0 1 (by decide) (by decide) (by decide)
  have q2 := h4 0 0 2 (by decide) (by decide) (by decide)
  rw [hfo, ← hx0] at q0
  rw [hfo, ← hx1] at q1
  rw [hfo, ← hx2] at q2
  have HQ0 := Lib.hid (And.intro h0 q0)
  have HQ1 := Lib.hid (And.intro h0 q1)
  have HQ2 := Lib.hid (And.intro h0 q2)
  have HC := Lib.hid (fun (w' : World) (h' : Hp W1 (dvx g3 none 0 0 :: hdrP none 0 0 [] :: exx g1 g3 g4 :: nums none 0 0 (dI []) :: ([] ++ rowP [])) w') => (show Calls Tryz.prog 36 #[.slice none 0 0, .int .i64 0, .int .i64 0, .agg #[.int .i64 (x0 : Int), .int .i64 (x1 : Int), .int .i64 (x2 : Int)], .pointer (some ⟨g1, 0, none⟩), .pointer (some ⟨g3, 0, none⟩), .pointer (some ⟨g4, 0, none⟩)] w' (ExtPost W1 g1 g3 g4 (nums none 0 0 (dI [])) [] (dvs L u)) by
    have h := HEX.out g3 g4 w' (by omega) (Nat.zero_le _) (by decide) (Nat.zero_le _) rfl (by rw [HD.out]; have := HDL.out; omega) h'
    rw [HD.out, ← hx0, ← hx1, ← hx2] at h
    have e : (List.map (fun x : Prow => x.2) [] ++ (dvs L u).map ([] ++ ·)) = dvs L u := by simp
    rw [e] at h
    exact h))
  clear h0 h1 h2 h3 h4 hx0 hx1 hx2 hfo q0 q1 q2 HS1 HEX
  have hKp : Keep [(⟨g4, 0, none⟩, EVal g1 g3 g4), (⟨g1, 0, none⟩, .pointer (some ⟨g, 0, none⟩)), (⟨g, 3, none⟩, .int .i64 (x0 : Int)), (⟨g, 4, none⟩, .int .i64 (x1 : Int)), (⟨g, 5, none⟩, .int .i64 (x2 : Int))] W4 := List.forall_mem_cons.2 ⟨⟨(V4.out.box_at (i := 2) (j := 0) rfl rfl).1, (V4.out.box_at (i := 2) (j := 0) rfl rfl).2.2⟩, List.forall_mem_cons.2 ⟨⟨(V4.out.below.cell (p := ⟨g1, 0, none⟩) HP1.out.1).trans HP1.out.2, Nat.lt_of_lt_of_le HP1.out.1 V4.out.below.size⟩, List.forall_mem_cons.2 ⟨⟨(V4.out.below.cell (p := ⟨g, 3, none⟩) HQ0.out.1).trans HQ0.out.2, Nat.lt_of_lt_of_le HQ0.out.1 V4.out.below.size⟩, List.forall_mem_cons.2 ⟨⟨(V4.out.below.cell (p := ⟨g, 4, none⟩) HQ1.out.1).trans HQ1.out.2, Nat.lt_of_lt_of_le HQ1.out.1 V4.out.below.size⟩, List.forall_mem_cons.2 ⟨⟨(V4.out.below.cell (p := ⟨g, 5, none⟩) HQ2.out.1).trans HQ2.out.2, Nat.lt_of_lt_of_le HQ2.out.1 V4.out.below.size⟩, fun _ h => by simp at h⟩⟩⟩⟩⟩
  refine wp_region_held_drew (S := Keep _) (by kernel_rfl) hKp.drew (fun hHeld => ?_)
  obtain ⟨wf, hwf⟩ : ∃ z, z = W4.drew := ⟨_, rfl⟩
  have Vwf := Lib.hid (show Hp W1 (dvx g3 none 0 0 :: hdrP none 0 0 [] :: exx g1 g3 g4 :: nums none 0 0 (dI []) :: ([] ++ rowP [])) wf by rw [hwf]; exact V4.out.go (bdrew _))
  have Bwf := Lib.hid (show Below W4.heap.size W4 wf by rw [hwf]; exact bdrew _)
  rw [← hwf] at hHeld ⊢
  clear hwf hKp
  refine tk 0 ?_ rfl ?_ ?_; rotate_left
  · intro wl hSw
    have hSw : Keep _ wl := hSw
    have k0 := (hSw _ (.head _)).1
    dsimp only at k0
    clear hSw
    go_simp
    try (with_reducible rfl)
  try simp only [Act.put, sA, sZ, sS]
  refine tk 1 ?_ rfl ?_ ?_; rotate_left
  · intro wl hSw
    have hSw : Keep _ wl := hSw
    have k0 := (hSw _ (.tail _ (.head _))).1
    dsimp only at k0
    clear hSw
    go_simp
    try (with_reducible rfl)
  try simp only [Act.put, sA, sZ, sS]
  refine tk 2 ?_ rfl ?_ ?_; rotate_left; focus (intro w hSw; clear hSw; go_simp; try (with_reducible rfl))
  try simp only [Act.put, sA, sZ, sS]
  refine tk 3 ?_ rfl ?_ ?_; rotate_left; focus (intro w hSw; clear hSw; go_simp; try (with_reducible rfl))
  try simp only [Act.put, sA, sZ, sS]
  refine tk 4 ?_ rfl ?_ ?_; rotate_left; focus (intro w hSw; clear hSw; go_simp; try (with_reducible rfl))
  try simp only [Act.put, sA, sZ, sS]
  refine tk 5 ?_ rfl ?_ ?_; rotate_left; focus (intro w hSw; clear hSw; go_simp; try (with_reducible rfl))
  try simp only [Act.put, sA, sZ, sS]
  refine tk 6 ?_ rfl ?_ ?_; rotate_left
  · intro wl hSw
    have hSw : Keep _ wl := hSw
    have k0 := (hSw _ (.tail _ (.tail _ (.head _)))).1
    have k1 := (hSw _ (.tail _ (.tail _ (.tail _ (.head _))))).1
    have k2 := (hSw _ (.tail _ (.tail _ (.tail _ (.tail _ (.head _)))))).1
    dsimp only at k0 k1 k2
    clear hSw
    go_simp
    try (with_reducible rfl)
  try simp only [Act.put, sA, sZ, sS]
  refine wpAnyH_ready (rs := [7]) (by kernel_rfl) (by simp) ?_
  refine AllReadyH.cons (List.getElem?_toArray.trans rfl) (fun K hK => ?_) AllReadyH.nil
  go_simp
  refine (HC.out _ Vwf.out).mono ?_
  rintro r w20 ⟨rfl, Q, q, e2, ps, hpl, hpe, hp⟩
  have V20 := Lib.hid (show Hp W1 (dvx g3 Q q e2 :: hdrP Q q e2 ps :: exx g1 g3 g4 :: nums none 0 0 (dI []) :: ([] ++ rowP ps)) w20 from hp)
  have HPL := Lib.hid hpl
  have HPE := Lib.hid hpe
  clear hpl hpe hp
  try go_wp2_with fail
  refine hK.out _ _ (List.forall_mem_cons.2 ⟨⟨(V20.out.box_at (i := 2) (j := 0) rfl rfl).1, (V20.out.box_at (i := 2) (j := 0) rfl rfl).2.2⟩, List.forall_mem_cons.2 ⟨⟨(V20.out.below.cell (p := ⟨g1, 0, none⟩) HP1.out.1).trans HP1.out.2, Nat.lt_of_lt_of_le HP1.out.1 V20.out.below.size⟩, List.forall_mem_cons.2 ⟨⟨(V20.out.below.cell (p := ⟨g, 3, none⟩) HQ0.out.1).trans HQ0.out.2, Nat.lt_of_lt_of_le HQ0.out.1 V20.out.below.size⟩, List.forall_mem_cons.2 ⟨⟨(V20.out.below.cell (p := ⟨g, 4, none⟩) HQ1.out.1).trans HQ1.out.2, Nat.lt_of_lt_of_le HQ1.out.1 V20.out.below.size⟩, List.forall_mem_cons.2 ⟨⟨(V20.out.below.cell (p := ⟨g, 5, none⟩) HQ2.out.1).trans HQ2.out.2, Nat.lt_of_lt_of_le HQ2.out.1 V20.out.below.size⟩, fun _ h => by simp at h⟩⟩⟩⟩⟩) (fun hHeld => ?_)
  clear hK K
  try simp only [Act.put, sA, sZ, sS]
  refine wpAnyH_done (by kernel_rfl) ?_ _
  clear hHeld
  have xq := (V20.out.box_at (i := 0) (j := 0) rfl rfl).1
  have VF := Lib.hid (show Hp w (hdrP Q q e2 ps :: rowP ps) w20 from (V1.out.join (Hp.out1 (a := [hdrP Q q e2 ps]) (x := exx g1 g3 g4) (c := rowP ps) (Hp.out1 (a := [hdrP Q q e2 ps, exx g1 g3 g4]) (x := nums none 0 0 (dI [])) (c := rowP ps) V20.out.tail))).heads (l := hdrP Q q e2 ps :: rowP ps))
  go_wp2_with fail
  go_ret
  exact ⟨Q, q, e2, ps, rfl, HPL.out, HPE.out, VF.out⟩
end Go.Proofs.YtjamfcihjendiaaGreat

namespace Go.Proofs.YtjamfcihjendiaaGreat.St
set_option linter.unusedVariables false
set_option linter.unusedSimpArgs false

def RL (key : Int → Int) (x y : Int) : Prop := key x < key y ∨ (key x = key y ∧ x < y)
theorem RL.le {key : Int → Int} {x y : Int} (h : RL key x y) : key x ≤ key y := by rcases h with h | h <;> omega
theorem RL.trans {key : Int → Int} {x y z : Int} (h : RL key x y) (h2 : RL key y z) : RL key x z := by
  rcases h with h | h <;> rcases h2 with h2 | h2
  · exact .inl (by omega)
  · exact .inl (by omega)
  · exact .inl (by omega)
  · exact .inr (by omega)
theorem RL.of {key : Int → Int} {x y : Int} (h : x < y) (h2 : ¬ key y < key x) : RL key x y := by
  by_cases e : key x = key y
  · exact .inr ⟨e, h⟩
  · exact .inl (by omega)
theorem pw_get {key : Int → Int} {X : List Int} (h : X.Pairwise (RL key)) {i j : Nat} (hij : i < j) (hj : j < X.length) : RL key (X.getD i 0) (X.getD j 0) := by
  have := List.pairwise_iff_getElem.1 h i j (by omega) hj hij
  rwa [List.getD_eq_getElem?_getD, List.getD_eq_getElem?_getD, List.getElem?_eq_getElem (by omega), List.getElem?_eq_getElem hj]
theorem pw_le {key : Int → Int} {X : List Int} (h : X.Pairwise (RL key)) {i j : Nat} (hij : i ≤ j) (hj : j < X.length) : key (X.getD i 0) ≤ key (X.getD j 0) := by
  by_cases e : i = j
  · subst e; omega
  · exact (pw_get h (by omega) hj).le
theorem getD_mem {X : List Int} {i : Nat} (h : i < X.length) : X.getD i 0 ∈ X := by
  rw [List.getD_eq_getElem?_getD, List.getElem?_eq_getElem h]; exact List.getElem_mem h
theorem in_take {X : List Int} {k : Nat} {x : Int} (h : x ∈ X.take k) : ∃ i, i < k ∧ i < X.length ∧ X.getD i 0 = x := by
  obtain ⟨i, hi, e⟩ := List.mem_iff_getElem.1 h
  rw [List.length_take] at hi
  refine ⟨i, by omega, by omega, ?_⟩
  rw [List.getD_eq_getElem?_getD, List.getElem?_eq_getElem (by omega), ← e, List.getElem_take]; rfl
theorem in_drop {X : List Int} {k : Nat} {x : Int} (h : x ∈ X.drop k) : ∃ i, k ≤ i ∧ i < X.length ∧ X.getD i 0 = x := by
  obtain ⟨i, hi, e⟩ := List.mem_iff_getElem.1 h
  rw [List.length_drop] at hi
  refine ⟨k + i, by omega, by omega, ?_⟩
  rw [List.getD_eq_getElem?_getD, List.getElem?_eq_getElem (by omega), ← e, List.getElem_drop]; rfl
def Mrg (key : Int → Int) (X Y Z : List Int) : Prop := Z.Perm (X ++ Y) ∧ Z.Pairwise (RL key)
theorem Mrg.len {key : Int → Int} {X Y Z : List Int} (h : Mrg key X Y Z) : Z.length = X.length + Y.length := by
  rw [h.1.length_eq, List.length_append]
theorem mrg_right {key : Int → Int} {Y : List Int} (h : Y.Pairwise (RL key)) : Mrg key [] Y Y := ⟨List.Perm.refl _, h⟩
theorem mrg_left {key : Int → Int} {X : List Int} (h : X.Pairwise (RL key)) : Mrg key X [] X := ⟨by rw [List.append_nil], h⟩
theorem mrg_one {key : Int → Int} {x : Int} {Y : List Int} {k : Nat} (hY : Y.Pairwise (RL key)) (hx : ∀ y ∈ Y, x < y) (hk : k ≤ Y.length) (h1 : ∀ i, i < k → key (Y.getD i 0) < key x) (h2 : ∀ i, k ≤ i → i < Y.length → ¬ key (Y.getD i 0) < key x) :
    Mrg key [x] Y (Y.take k ++ x :: Y.drop k) := by
  constructor
  · refine List.perm_middle.trans ?_
    rw [List.take_append_drop]
    exact List.Perm.refl (x :: Y)
  · rw [← List.take_append_drop k Y] at hY
    obtain ⟨p1, p2, p3⟩ := List.pairwise_append.1 hY
    refine List.pairwise_append.2 ⟨p1, List.pairwise_cons.2 ⟨fun y hy => ?_, p2⟩, fun a ha b hb => ?_⟩
    · obtain ⟨i, i1, i2, rfl⟩ := in_drop hy
      exact RL.of (hx _ (getD_mem i2)) (h2 i i1 i2)
    · rcases List.mem_cons.1 hb with rfl | hb
      · obtain ⟨i, i1, i2, rfl⟩ := in_take ha
        exact .inl (h1 i i1)
      · exact p3 a ha b hb
theorem mrg_last {key : Int → Int} {y : Int} {X : List Int} {k : Nat} (hX : X.Pairwise (RL key)) (hy : ∀ x ∈ X, x < y) (hk : k ≤ X.length) (h1 : ∀ i, i < k → ¬ key y < key (X.getD i 0)) (h2 : ∀ i, k ≤ i → i < X.length → key y < key (X.getD i 0)) :
    Mrg key X [y] (X.take k ++ y :: X.drop k) := by
  constructor
  · refine List.perm_middle.trans ?_
    rw [List.take_append_drop]
    exact (List.perm_append_comm (l₁ := [y]) (l₂ := X))
  · rw [← List.take_append_drop k X] at hX
    obtain ⟨p1, p2, p3⟩ := List.pairwise_append.1 hX
    refine List.pairwise_append.2 ⟨p1, List.pairwise_cons.2 ⟨fun x hx => ?_, p2⟩, fun a ha b hb => ?_⟩
    · obtain ⟨i, i1, i2, rfl⟩ := in_drop hx
      exact .inl (h2 i i1 i2)
    · rcases List.mem_cons.1 hb with rfl | hb
      · obtain ⟨i, i1, i2, rfl⟩ := in_take ha
        exact RL.of (hy _ (getD_mem i2)) (h1 i i1)
      · exact p3 a ha b hb
theorem mrg_two {key : Int → Int} {X Y Z1 Z2 : List Int} {s t : Nat} (hX : X.Pairwise (RL key)) (hY : Y.Pairwise (RL key)) (hlt : ∀ x ∈ X, ∀ y ∈ Y, x < y) (hs : s ≤ X.length) (ht : t ≤ Y.length)
    (hA : 0 < s → t < Y.length → ¬ key (Y.getD t 0) < key (X.getD (s - 1) 0)) (hB : 0 < t → s < X.length → key (Y.getD (t - 1) 0) < key (X.getD s 0))
    (h1 : Mrg key (X.take s) (Y.take t) Z1) (h2 : Mrg key (X.drop s) (Y.drop t) Z2) : Mrg key X Y (Z1 ++ Z2) := by
  have aX : ∀ a ∈ X.take s, ∀ b ∈ X.drop s, RL key a b := by
    rw [← List.take_append_drop s X] at hX
    exact (List.pairwise_append.1 hX).2.2
  have aY : ∀ a ∈ Y.take t, ∀ b ∈ Y.drop t, RL key a b := by
    rw [← List.take_append_drop t Y] at hY
    exact (List.pairwise_append.1 hY).2.2
  have aA : ∀ a ∈ X.take s, ∀ b ∈ Y.drop t, RL key a b := fun a ha b hb => by
    have hab := hlt a (List.mem_of_mem_take ha) b (List.mem_of_mem_drop hb)
    obtain ⟨i, i1, i2, rfl⟩ := in_take ha
    obtain ⟨j, j1, j2, rfl⟩ := in_drop hb
    have k1 := hA (by omega) (by omega)
    have k2 := pw_le hX (show i ≤ s - 1 by omega) (by omega)
    have k3 := pw_le hY (show t ≤ j from j1) j2
    exact RL.of hab (by omega)
  have aB : ∀ a ∈ Y.take t, ∀ b ∈ X.drop s, RL key a b := fun a ha b hb => by
    obtain ⟨i, i1, i2, rfl⟩ := in_take ha
    obtain ⟨j, j1, j2, rfl⟩ := in_drop hb
    have k1 := hB (by omega) (by omega)
    have k2 := pw_le hY (show i ≤ t - 1 by omega) (by omega)
    have k3 := pw_le hX (show s ≤ j from j1) j2
    exact .inl (by omega)
  constructor
  · refine (h1.1.append h2.1).trans ?_
    have e1 : (X.take s ++ Y.take t ++ (X.drop s ++ Y.drop t)).Perm (X.take s ++ X.drop s ++ (Y.take t ++ Y.drop t)) := by
      rw [List.append_assoc, List.append_assoc]
      refine List.Perm.append_left _ ?_
      rw [← List.append_assoc, ← List.append_assoc]
      exact List.Perm.append_right _ List.perm_append_comm
    rw [List.take_append_drop, List.take_append_drop] at e1
    exact e1
  · refine List.pairwise_append.2 ⟨h1.2, h2.2, fun a ha b hb => ?_⟩
    rcases List.mem_append.1 (h1.1.mem_iff.1 ha) with h | h <;> rcases List.mem_append.1 (h2.1.mem_iff.1 hb) with h' | h'
    · exact aX a h b h'
    · exact aA a h b h'
    · exact aB a h b h'
    · exact aY a h b h'
def swp (L : List Int) (i j : Nat) : List Int := (L.set i (L.getD j 0)).set j (L.getD i 0)
theorem set_mid {P T : List Int} (x y : Int) : (P ++ x :: T).set P.length y = P ++ y :: T := by
  rw [List.set_append_right _ _ (Nat.le_refl _), Nat.sub_self]; rfl
theorem get_mid {P T : List Int} (x : Int) : (P ++ x :: T).getD P.length 0 = x := by
  rw [List.getD_eq_getElem?_getD, List.getElem?_append_right (Nat.le_refl _), Nat.sub_self]; rfl
theorem swp_mid {P M T : List Int} (x y : Int) : swp (P ++ x :: (M ++ y :: T)) P.length (P.length + 1 + M.length) = P ++ y :: (M ++ x :: T) := by
  have e : ∀ z, P ++ z :: (M ++ y :: T) = (P ++ z :: M) ++ y :: T := fun z => by rw [List.append_assoc]; rfl
  have l : ∀ z, (P ++ z :: M).length = P.length + 1 + M.length := fun z => by rw [List.length_append, List.length_cons]; omega
  have g1 : (P ++ x :: (M ++ y :: T)).getD (P.length + 1 + M.length) 0 = y := by rw [e, ← l x, get_mid]
  unfold swp
  rw [g1, get_mid, set_mid, e, ← l y, set_mid, List.append_assoc]; rfl
theorem swp_next {P T : List Int} (x y : Int) : swp (P ++ x :: y :: T) P.length (P.length + 1) = P ++ y :: x :: T := swp_mid (M := []) x y
theorem swp_comm {L : List Int} {i j : Nat} : swp L i j = swp L j i := by
  unfold swp
  by_cases e : i = j
  · subst e; rfl
  · rw [List.set_comm _ _ e]
theorem swp_back {P T : List Int} (x y : Int) : swp (P ++ x :: y :: T) (P.length + 1) P.length = P ++ y :: x :: T := by rw [swp_comm]; exact swp_next x y
def swR (P X M Y T : List Int) (k : Nat) : List Int := P ++ (Y.take k ++ X.drop k) ++ M ++ (X.take k ++ Y.drop k) ++ T
theorem swR_zero (P X M Y T : List Int) : swR P X M Y T 0 = P ++ X ++ M ++ Y ++ T := by unfold swR; simp
theorem swR_all {P X M Y T : List Int} {k : Nat} (hx : X.length = k) (hy : Y.length = k) : swR P X M Y T k = P ++ Y ++ M ++ X ++ T := by
  unfold swR
  rw [List.take_of_length_le (by omega), List.take_of_length_le (by omega), List.drop_of_length_le (by omega), List.drop_of_length_le (by omega), List.append_nil, List.append_nil]
theorem take_cons_drop {X : List Int} {k : Nat} (h : k < X.length) : X.drop k = X.getD k 0 :: X.drop (k + 1) := by
  rw [List.drop_eq_getElem_cons h, List.getD_eq_getElem?_getD, List.getElem?_eq_getElem h]; rfl
theorem take_snoc {X : List Int} {k : Nat} (h : k < X.length) : X.take (k + 1) = X.take k ++ [X.getD k 0] := by
  rw [List.take_add_one, List.getElem?_eq_getElem h, List.getD_eq_getElem?_getD, List.getElem?_eq_getElem h]; rfl
theorem swR_step {P X M Y T : List Int} {k n : Nat} (hx : X.length = n) (hy : Y.length = n) (hk : k < n) :
    swp (swR P X M Y T k) (P.length + k) (P.length + n + M.length + k) = swR P X M Y T (k + 1) := by
  have e1 : swR P X M Y T k = (P ++ Y.take k) ++ X.getD k 0 :: ((X.drop (k + 1) ++ M ++ X.take k) ++ Y.getD k 0 :: (Y.drop (k + 1) ++ T)) := by
    unfold swR
    rw [take_cons_drop (X := X) (by omega), take_cons_drop (X := Y) (by omega)]
    simp only [List.append_assoc, List.cons_append]
  have e2 : swR P X M Y T (k + 1) = (P ++ Y.take k) ++ Y.getD k 0 :: ((X.drop (k + 1) ++ M ++ X.take k) ++ X.getD k 0 :: (Y.drop (k + 1) ++ T)) := by
    unfold swR
    rw [take_snoc (X := X) (by omega), take_snoc (X := Y) (by omega)]
    simp only [List.append_assoc, List.cons_append, List.nil_append]
  have l1 : (P ++ Y.take k).length = P.length + k := by rw [List.length_append, List.length_take]; omega
  have l2 : (P ++ Y.take k).length + 1 + (X.drop (k + 1) ++ M ++ X.take k).length = P.length + n + M.length + k := by
    rw [l1]; simp only [List.length_append, List.length_drop, List.length_take]; omega
  have h := swp_mid (P := P ++ Y.take k) (M := X.drop (k + 1) ++ M ++ X.take k) (T := Y.drop (k + 1) ++ T) (X.getD k 0) (Y.getD k 0)
  rw [l2, l1] at h
  rw [e1, e2]
  exact h
theorem swR_len {P X M Y T : List Int} {k n : Nat} (hx : X.length = n) (hy : Y.length = n) (hk : k ≤ n) : (swR P X M Y T k).length = P.length + n + M.length + n + T.length := by
  unfold swR
  simp only [List.length_append, List.length_drop, List.length_take]
  omega
def mvR (P : List Int) (x : Int) (Y : List Int) (k : Nat) : List Int := P ++ Y.take k ++ x :: Y.drop k
theorem mvR_step {P Y : List Int} {x : Int} {k : Nat} (hk : k < Y.length) : swp (mvR P x Y k) (P.length + k) (P.length + k + 1) = mvR P x Y (k + 1) := by
  have l1 : (P ++ Y.take k).length = P.length + k := by rw [List.length_append, List.length_take]; omega
  unfold mvR
  rw [take_cons_drop hk, ← l1, swp_next, take_snoc hk]
  simp only [List.append_assoc, List.cons_append, List.nil_append]
theorem mvR_back {P Y : List Int} {x : Int} {k : Nat} (hk : k < Y.length) : swp (mvR P x Y (k + 1)) (P.length + k + 1) (P.length + k) = mvR P x Y k := by
  have l1 : (P ++ Y.take k).length = P.length + k := by rw [List.length_append, List.length_take]; omega
  unfold mvR
  rw [take_snoc hk, take_cons_drop hk, ← l1]
  rw [show P ++ (Y.take k ++ [Y.getD k 0]) ++ x :: Y.drop (k + 1) = (P ++ Y.take k) ++ Y.getD k 0 :: x :: Y.drop (k + 1) by simp only [List.append_assoc, List.cons_append, List.nil_append]]
  rw [swp_back]
theorem mvR_len {P Y : List Int} {x : Int} {k : Nat} : (mvR P x Y k).length = P.length + Y.length + 1 := by
  unfold mvR
  simp only [List.length_append, List.length_take, List.length_cons, List.length_drop]
  omega
theorem mvR_all (P Y T : List Int) (x : Int) : mvR P x (Y ++ T) Y.length = P ++ Y ++ x :: T := by
  unfold mvR
  rw [List.take_left, List.drop_left]
theorem mvR_zero (P Y : List Int) (x : Int) : mvR P x Y 0 = P ++ x :: Y := by unfold mvR; simp
end Go.Proofs.YtjamfcihjendiaaGreat.St
namespace Go.Proofs.YtjamfcihjendiaaGreat.St

def PInv (key : Int → Int) (bs : Nat) (P0 P : List Int) : Prop := P.length = P0.length ∧ ∀ k, ((P.drop (k * bs)).take bs).Pairwise (RL key) ∧ ((P.drop (k * bs)).take bs).Perm ((P0.drop (k * bs)).take bs)
theorem PInv.nil (key : Int → Int) (bs : Nat) : PInv key bs [] [] := ⟨rfl, fun k => by simp⟩
theorem PInv.snoc {key : Int → Int} {bs k : Nat} {P0 P X Z : List Int} (h : PInv key bs P0 P) (hl : P.length = k * bs) (hz : Z.Perm X) (hs : Z.Pairwise (RL key)) (hx : X.length ≤ bs) : PInv key bs (P0 ++ X) (P ++ Z) := by
  have hzl := hz.length_eq
  have h0 : P0.length = k * bs := by rw [← h.1, hl]
  refine ⟨by rw [List.length_append, List.length_append, h.1, hzl], fun j => ?_⟩
  rcases Nat.lt_trichotomy j k with hj | hj | hj
  · have e : j * bs + bs ≤ k * bs := by
      have := Nat.mul_le_mul_right bs (show j + 1 ≤ k from hj)
      rwa [Nat.succ_mul] at this
    have g : ∀ (A B : List Int), A.length = k * bs → ((A ++ B).drop (j * bs)).take bs = (A.drop (j * bs)).take bs := fun A B hA => by
      rw [List.drop_append_of_le_length (by omega), List.take_append_of_le_length (by rw [List.length_drop]; omega)]
    rw [g P Z hl, g P0 X h0]
    exact h.2 j
  · subst hj
    have g : ∀ (A B : List Int), A.length = j * bs → B.length ≤ bs → ((A ++ B).drop (j * bs)).take bs = B := fun A B hA hB => by
      rw [← hA, List.drop_left, List.take_of_length_le hB]
    rw [g P Z hl (by omega), g P0 X h0 hx]
    exact ⟨hs, hz⟩
  · have e : k * bs + bs ≤ j * bs := by
      have := Nat.mul_le_mul_right bs (show k + 1 ≤ j from hj)
      rwa [Nat.succ_mul] at this
    rw [List.drop_of_length_le (by rw [List.length_append]; omega), List.drop_of_length_le (by rw [List.length_append]; omega)]
    simp
theorem PInv.block {key : Int → Int} {bs : Nat} {P0 P : List Int} (h : PInv key bs P0 P) : (P.take bs).Pairwise (RL key) ∧ (P.take bs).Perm (P0.take bs) := by
  have := h.2 0
  rwa [Nat.zero_mul, List.drop_zero, List.drop_zero] at this
theorem PInv.tail {key : Int → Int} {bs : Nat} {P0 P : List Int} (h : PInv key bs P0 P) : PInv key bs (P0.drop bs) (P.drop bs) := by
  refine ⟨by rw [List.length_drop, List.length_drop, h.1], fun k => ?_⟩
  rw [List.drop_drop, List.drop_drop, show bs + k * bs = (k + 1) * bs by rw [Nat.succ_mul]; omega]
  exact h.2 (k + 1)
theorem PInv.all {key : Int → Int} {bs : Nat} {P0 P : List Int} (h : PInv key bs P0 P) (hb : P.length ≤ bs) : P.Pairwise (RL key) ∧ P.Perm P0 := by
  have := h.block
  rwa [List.take_of_length_le hb, List.take_of_length_le (by rw [← h.1]; exact hb)] at this
theorem PInv.two {key : Int → Int} {bs : Nat} {P0 P X Y : List Int} (h : PInv key bs P0 P) (ha : P0.Pairwise (· < ·)) (hX : X = P.take bs) (hY : Y = (P.drop bs).take bs) :
    X.Pairwise (RL key) ∧ Y.Pairwise (RL key) ∧ (∀ x ∈ X, ∀ y ∈ Y, x < y) ∧ (X ++ Y).Perm (P0.take (bs + bs)) := by
  have h1 := h.block
  have h2 := h.tail.block
  subst hX hY
  refine ⟨h1.1, h2.1, fun x hx y hy => ?_, ?_⟩
  · have x1 := h1.2.mem_iff.1 hx
    have y1 := List.mem_of_mem_take (h2.2.mem_iff.1 hy)
    rw [← List.take_append_drop bs P0] at ha
    exact (List.pairwise_append.1 ha).2.2 x x1 y y1
  · have e : P0.take (bs + bs) = P0.take bs ++ (P0.drop bs).take bs := List.take_add
    rw [e]
    exact h1.2.append h2.2
end Go.Proofs.YtjamfcihjendiaaGreat.St

namespace Go.Proofs.YtjamfcihjendiaaGreat
open Go.RowKit
set_option linter.unusedVariables false
set_option linter.unusedSimpArgs false
set_option maxRecDepth 100000

def vals (va : Int → Option Addr) (vn vc : Int → Nat) (A : Option Addr) (n c : Nat) (L : List Int) : Itm := ⟨35, 1, .slice A n c, n, L.map fun x => .slice (va x) (vn x) (vc x)⟩
section
variable {W w : World} {l : List Itm} {g n c i : Nat} {A : Option Addr} {L : List Int} {va : Int → Option Addr} {vn vc : Int → Nat}
theorem Hp.val_len (h : Hp W l w) (hi : l[i]? = some (vals va vn vc A n c L)) : L.length = n := by
  have := (h.own i _ hi).1
  simpa [vals] using this
theorem Hp.val_set (h : Hp W l w) (hi : l[i]? = some (vals va vn vc (some ⟨g, 0, none⟩) n c L)) (j : Nat) (x : Int) :
    Hp W (l.set i (vals va vn vc (some ⟨g, 0, none⟩) n c (L.set j x))) (w.setCell ⟨g, j, none⟩ (.slice (va x) (vn x) (vc x))) := by
  have := h.store hi (g := g) (cap := c) rfl j (.slice (va x) (vn x) (vc x))
  simpa [vals] using this
theorem Hp.val_get (h : Hp W l w) (hi : l[i]? = some (vals va vn vc (some ⟨g, 0, none⟩) n c L)) {j : Nat} {x : Int} (hj : L[j]? = some x) :
    w.cell? ⟨g, j, none⟩ = some (.slice (va x) (vn x) (vc x)) ∧ w.frozen? ⟨g, j, none⟩ = false ∧ g < w.heap.size := h.cell hi (cap := c) rfl (by show (L.map _)[j]? = _; rw [List.getElem?_map, hj]; rfl)
theorem Hp.val_at (h : Hp W l w) (hi : l[i]? = some (vals va vn vc (some ⟨g, 0, none⟩) n c L)) {j : Nat} (hj : j < L.length) :
    w.cell? ⟨g, j, none⟩ = some (.slice (va (L.getD j 0)) (vn (L.getD j 0)) (vc (L.getD j 0))) ∧ w.frozen? ⟨g, j, none⟩ = false ∧ g < w.heap.size := h.val_get hi (by rw [List.getD_eq_getElem?_getD, List.getElem?_eq_getElem hj]; rfl)
end
end Go.Proofs.YtjamfcihjendiaaGreat
