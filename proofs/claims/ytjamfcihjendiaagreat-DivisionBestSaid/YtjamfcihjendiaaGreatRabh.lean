/- Several texts in one: Sd. -/
import Derived.Test.YtjamfcihjendiaaGreatRabg
import Derived.Deep.RegionLaw
namespace Go.Proofs.YtjamfcihjendiaaGreat.St
open Go.RowKit
set_option linter.unusedVariables false
set_option linter.unusedSimpArgs false
set_option maxRecDepth 100000

abbrev FVal (gb : Nat) : Value := .func (.func 42) #[] #[.pointer (some ⟨gb, 0, none⟩)]
def CmpOk (va : Int → Option Addr) (vn vc : Int → Nat) (key : Int → Int) (N gb gd n c : Nat) (W : World) (l : List Itm) : Prop := ∀ (w : World) (L : List Int), Hp W (vals va vn vc (some ⟨gd, 0, none⟩) n c L :: l) w → ∀ i k : Nat, i < N → k < N →
  Calls Tryz.prog 42 #[.slice (va (i : Int)) (vn (i : Int)) (vc (i : Int)), .slice (va (k : Int)) (vn (k : Int)) (vc (k : Int)), .pointer (some ⟨gb, 0, none⟩)] w fun e w' => ∃ z, e = .returned (.int .i64 z) ∧ (z < 0 ↔ key i < key k) ∧ Below w.heap.size w w'
theorem mvR_in {P Z D : List Int} {x : Int} {k : Nat} (h : k ≤ Z.length) : mvR P x (Z ++ D) k = P ++ (Z.take k ++ x :: Z.drop k) ++ D := by
  unfold mvR
  rw [List.take_append_of_le_length h, List.drop_append_of_le_length h]
  simp only [List.append_assoc, List.cons_append]
theorem mvR_at {P Y : List Int} {x : Int} {k : Nat} (h : k ≤ Y.length) : (mvR P x Y k)[P.length + k]? = some x := by
  unfold mvR
  rw [List.getElem?_append_right (by rw [List.length_append, List.length_take]; omega), List.length_append, List.length_take, show P.length + k - (P.length + min k Y.length) = 0 by omega]; rfl
theorem mvR_pre {P Y : List Int} {x : Int} {k : Nat} (h : k < Y.length) : (mvR P x Y (k + 1))[P.length + k]? = some (Y.getD k 0) := by
  unfold mvR
  rw [List.getElem?_append_left (by rw [List.length_append, List.length_take]; omega), List.getElem?_append_right (by omega), Nat.add_sub_cancel_left, List.getElem?_take_of_lt (by omega), get_some h]
theorem mvR_post {P Y : List Int} {x : Int} {k : Nat} (h : k < Y.length) : (mvR P x Y k)[P.length + k + 1]? = some (Y.getD k 0) := by
  unfold mvR
  rw [List.getElem?_append_right (by rw [List.length_append, List.length_take]; omega), List.length_append, List.length_take, show P.length + k + 1 - (P.length + min k Y.length) = 0 + 1 by omega, take_cons_drop h]; rfl
theorem as_nat {N : Nat} {x : Int} (h : 0 ≤ x ∧ x < (N : Int)) : ∃ q : Nat, x = (q : Int) ∧ q < N := ⟨x.toNat, by omega, by omega⟩
set_option maxHeartbeats 32000000 in
theorem insertion_any {W : World} {l : List Itm} {va : Int → Option Addr} {vn vc : Int → Nat} (key : Int → Int) (N gb gd n c : Nat) (HC : CmpOk va vn vc key N gb gd n c W l) (P X T : List Int) (a b : Nat) (w : World) (hP : P.length = a) (hX : a + X.length = b) (hT : b + T.length = n) (hbig : n ≤ 1000000)
    (hasc : X.Pairwise (· < ·)) (hN : ∀ x ∈ X, 0 ≤ x ∧ x < (N : Int)) (hV : Hp W (vals va vn vc (some ⟨gd, 0, none⟩) n c (P ++ X ++ T) :: l) w) :
    Calls Tryz.prog 78 #[.slice (some ⟨gd, 0, none⟩) n c, .int .i64 (a : Int), .int .i64 (b : Int), FVal gb] w fun e w' => e = .returned (.tuple #[]) ∧ ∃ Z, Z.Perm X ∧ Z.Pairwise (RL key) ∧ Hp W (vals va vn vc (some ⟨gd, 0, none⟩) n c (P ++ Z ++ T) :: l) w' := by
  have V0 := Lib.hid hV
  have HCC := Lib.hid HC
  have HP := Lib.hid hP
  have HX := Lib.hid hX
  have HT := Lib.hid hT
  have HA := Lib.hid hasc
  have HNN := Lib.hid hN
  have hab : a ≤ b := by omega
  have hbn : b ≤ n := by omega
  clear hV HC hP hX hT hasc hN
  have h0 : IntKind.i64.wrap ((a : Int) + 1) = ((a + 1 : Nat) : Int) := by rw [IntWalk.i64_in _ (by omega)]; omega
  go_enter Tryz.func78, Tryz.ntmps78
  go_wp2_with fail
  go_loopw [8] (fun cv wr => ∃ (s : Nat) (Z : List Int), cv = .int .i64 ((a + s : Nat) : Int) ∧ 1 ≤ s ∧ a + s ≤ b + 1 ∧ Z.Perm (X.take s) ∧ Z.Pairwise (RL key) ∧ Hp W (vals va vn vc (some ⟨gd, 0, none⟩) n c (P ++ Z ++ (X.drop s ++ T)) :: l) wr) (fun cv _ => b + 1 - (intOf cv).toNat)
  case atStart => exact ⟨1, X.take 1, rfl, Nat.le_refl _, by omega, List.Perm.refl _, by
    cases X with
    | nil => exact List.Pairwise.nil
    | cons x r => exact List.pairwise_singleton _ _, by
    have h := V0.out
    rw [show P ++ X ++ T = P ++ X.take 1 ++ (X.drop 1 ++ T) by rw [List.append_assoc P (X.take 1), ← List.append_assoc (X.take 1), List.take_append_drop, ← List.append_assoc]] at h
    exact h⟩
  case round =>
    clear V0 h0
    obtain ⟨s, Z, rfl, hs1, hsb, hperm, hsort, hV⟩ := hrel
    obtain ⟨wi, rfl⟩ : ∃ wi : World, wi = wr := ⟨_, rfl⟩
    have V := Lib.hid hV
    have HPE := Lib.hid hperm
    have HSO := Lib.hid hsort
    clear hV hperm hsort
    obtain ⟨i, hi⟩ : ∃ i, i = a + s := ⟨_, rfl⟩
    rw [← hi]
    have hi1 : a + s ≤ i := by omega
    have hi2 : i ≤ a + s := by omega
    clear hi
    by_cases hlt : i < b
    case neg =>
      go_wp2_with fail
      refine bodyPost_end (results_none rfl _ _ _) rfl ⟨rfl, Z, ?_, HSO.out, ?_⟩
      · have h := HPE.out
        rwa [List.take_of_length_le (by have := HX.out; omega)] at h
      · have h := V.out
        rwa [List.drop_of_length_le (by have := HX.out; omega), List.nil_append] at h
    have hsX : s < X.length := by have := HX.out; omega
    have HZL := Lib.hid (show Z.length = s by rw [HPE.out.length_eq, List.length_take]; omega)
    obtain ⟨x, hx⟩ : ∃ x, x = X.getD s 0 := ⟨_, rfl⟩
    obtain ⟨D, hD⟩ : ∃ D, D = X.drop (s + 1) ++ T := ⟨_, rfl⟩
    have HDE := Lib.hid hD
    have HTS := Lib.hid (show X.take (s + 1) = X.take s ++ [x] by rw [hx]; exact take_snoc hsX)
    have V1 := Lib.hid (show Hp W (vals va vn vc (some ⟨gd, 0, none⟩) n c (mvR P x (Z ++ D) s) :: l) wi by
      have h := V.out
      rw [take_cons_drop hsX, ← hx] at h
      rw [← HZL.out, mvR_all, hD]
      exact h)
    have HLT := Lib.hid (show ∀ z ∈ Z, z < x from fun z hz => by
      have h1 := HA.out
      rw [← List.take_append_drop s X] at h1
      have h2 := (List.pairwise_append.1 h1).2.2 z (HPE.out.mem_iff.1 hz) x (by rw [take_cons_drop hsX, hx]; exact List.mem_cons_self ..)
      exact h2)
    have HLEN := Lib.hid (show P.length + (Z ++ D).length + 1 = n by
      have h := V1.out.val_len (i := 0) rfl
      rw [mvR_len] at h
      exact h)
    have HZD := Lib.hid (show (Z ++ D).length = s + D.length by rw [List.length_append, HZL.out])
    obtain ⟨xn, hxn, hxN⟩ := as_nat (HNN.out x (by rw [hx]; exact getD_mem hsX))
    have HZN := Lib.hid (show ∀ t, t < s → ∃ q : Nat, Z.getD t 0 = (q : Int) ∧ q < N from fun t ht => as_nat (HNN.out _ (List.mem_of_mem_take (HPE.out.mem_iff.1 (getD_mem (by rw [HZL.out]; exact ht))))))
    clear hx hD V
    subst hxn
    go_wp2_with fail
    go_loopw [9] (fun cv wr => ∃ k : Nat, cv = .int .i64 ((a + k : Nat) : Int) ∧ k ≤ s ∧ (∀ t, k ≤ t → t < s → key (xn : Int) < key (Z.getD t 0)) ∧ Hp W (vals va vn vc (some ⟨gd, 0, none⟩) n c (mvR P (xn : Int) (Z ++ D) k) :: l) wr) (fun cv _ => (intOf cv).toNat)
    case atStart => exact ⟨s, by rw [show a + s = i by omega], Nat.le_refl _, fun t h1 h2 => by omega, V1.out⟩
    case round =>
      clear V1
      obtain ⟨k, rfl, hks, hinv, hV⟩ := hrel
      obtain ⟨wj, rfl⟩ : ∃ wj : World, wj = wr := ⟨_, rfl⟩
      have V := Lib.hid hV
      have HI := Lib.hid hinv
      clear hV hinv
      obtain ⟨j, hj⟩ : ∃ j, j = a + k := ⟨_, rfl⟩
      rw [← hj]
      have hj1 : a + k ≤ j := by omega
      have hj2 : j ≤ a + k := by omega
      clear hj
      by_cases hk0 : 0 < k
      case neg =>
        have hja : ¬ a < j := by omega
        go_upto_region 4 with fail
        have hKp : Keep [] wj := fun _ h => by simp at h
        refine wp_region_held_drew (S := Keep _) (by kernel_rfl) hKp.drew (fun hHeld => ?_)
        have Vd := Lib.hid (V.out.go (bdrew _))
        refine tk 0 ?_ rfl ?_ ?_; rotate_left; focus (intro w hSw; clear hSw; go_simp; try (with_reducible rfl))
        try simp only [Act.put, sA, sZ, sS]
        refine tk 1 ?_ rfl ?_ ?_; rotate_left; focus (intro w hSw; clear hSw; go_simp; try (with_reducible rfl))
        try simp only [Act.put, sA, sZ, sS]
        refine tk 2 ?_ rfl ?_ ?_; rotate_left; focus (intro w hSw; clear hSw; go_simp; try (with_reducible rfl))
        try simp only [Act.put, sA, sZ, sS]
        refine tk 3 ?_ rfl ?_ ?_; rotate_left; focus (intro w hSw; clear hSw; go_simp; try (with_reducible rfl))
        try simp only [Act.put, sA, sZ, sS]
        refine tu 4 rfl ?_
        try simp only [Act.put, sA, sZ, sS]
        refine tu 5 rfl ?_
        try simp only [Act.put, sA, sZ, sS]
        refine tu 6 rfl ?_
        try simp only [Act.put, sA, sZ, sS]
        refine tu 7 rfl ?_
        try simp only [Act.put, sA, sZ, sS]
        refine tu 8 rfl ?_
        try simp only [Act.put, sA, sZ, sS]
        refine tu 9 rfl ?_
        try simp only [Act.put, sA, sZ, sS]
        refine tu 10 rfl ?_
        try simp only [Act.put, sA, sZ, sS]
        refine tu 11 rfl ?_
        try simp only [Act.put, sA, sZ, sS]
        refine tu 12 rfl ?_
        try simp only [Act.put, sA, sZ, sS]
        refine tu 13 rfl ?_
        try simp only [Act.put, sA, sZ, sS]
        refine tu 14 rfl ?_
        try simp only [Act.put, sA, sZ, sS]
        refine tu 15 rfl ?_
        try simp only [Act.put, sA, sZ, sS]
        refine tk 16 ?_ rfl ?_ ?_; rotate_left; focus (intro w hSw; clear hSw; go_simp; try (with_reducible rfl))
        try simp only [Act.put, sA, sZ, sS]
        refine wpAnyH_done (by kernel_rfl) ?_ _
        clear hKp hHeld
        have hm := mrg_last (key := key) (y := (xn : Int)) (k := k) HSO.out HLT.out (by rw [HZL.out]; exact hks) (fun t h => by omega) (fun t h1 h2 => HI.out t h1 (by rw [← HZL.out]; exact h2))
        have HM := Lib.hid hm
        have V9 := Lib.hid (show Hp W (vals va vn vc (some ⟨gd, 0, none⟩) n c (P ++ (Z.take k ++ (xn : Int) :: Z.drop k) ++ (X.drop (s + 1) ++ T)) :: l) _ by
          have h := Vd.out
          rw [mvR_in (by rw [HZL.out]; exact hks), HDE.out] at h
          exact h)
        have HPM := Lib.hid (show (Z.take k ++ (xn : Int) :: Z.drop k).Perm (X.take (s + 1)) by
          rw [HTS.out]
          exact HM.out.1.trans (List.Perm.append_right _ HPE.out))
        clear hm
        go_wp2_with fail
        go_roundw
        case rel => exact ⟨s + 1, _, by go_num, by omega, by omega, HPM.out, HM.out.2, V9.out⟩
        case measure => simp [intOf]; omega
      have hja : a < j := by omega
      obtain ⟨k', hk'⟩ : ∃ k', k' = k - 1 := ⟨_, rfl⟩
      obtain rfl : k = k' + 1 := by omega
      clear hk'
      obtain ⟨q, hq, hqN⟩ := HZN.out k' (by omega)
      have HQ := Lib.hid hq
      obtain ⟨p, hp⟩ : ∃ p, p = a + k' := ⟨_, rfl⟩
      have g1 : IntKind.i64.wrap ((j : Int) - 1) = (p : Int) := by rw [IntWalk.i64_in _ (by omega)]; omega
      have hpj : p + 1 = j := by omega
      have hjn : j < n := by have := HLEN.out; have := HP.out; have := HZD.out; omega
      have hpn : p < n := by omega
      obtain ⟨L, hL⟩ : ∃ L, L = mvR P (xn : Int) (Z ++ D) (k' + 1) := ⟨_, rfl⟩
      have HXI := Lib.hid (show L[j]? = some (xn : Int) by rw [hL, show j = P.length + (k' + 1) by rw [HP.out]; omega]; exact mvR_at (by rw [HZD.out]; omega))
      have HYJ := Lib.hid (show L[p]? = some (q : Int) by
        rw [hL, hp, ← HP.out, mvR_pre (by rw [HZD.out]; omega), ← HQ.out]
        rw [List.getD_eq_getElem?_getD, List.getD_eq_getElem?_getD, List.getElem?_append_left (by rw [HZL.out]; omega)])
      have HSW := Lib.hid (show swp L j p = mvR P (xn : Int) (Z ++ D) k' by
        rw [hL, show j = P.length + k' + 1 by rw [HP.out]; omega, hp, ← HP.out]
        exact mvR_back (by rw [HZD.out]; omega))
      have HLL := Lib.hid (show L.length = n by rw [hL, mvR_len]; exact HLEN.out)
      have HLQ := Lib.hid hL
      rw [← hL] at V
      clear hq hp hL
      obtain ⟨c0, _, cb⟩ := V.out.val_get (i := 0) rfl HXI.out
      obtain ⟨c1, _, _⟩ := V.out.val_get (i := 0) rfl HYJ.out
      go_upto_region 4 with fail
      have hKp : Keep [(⟨gd, j, none⟩, .slice (va (xn : Int)) (vn (xn : Int)) (vc (xn : Int))), (⟨gd, p, none⟩, .slice (va (q : Int)) (vn (q : Int)) (vc (q : Int)))] wj := List.forall_mem_cons.2 ⟨⟨c0, cb⟩, List.forall_mem_cons.2 ⟨⟨c1, cb⟩, fun _ h => by simp at h⟩⟩
      refine wp_region_held_drew (S := Keep _) (by kernel_rfl) hKp.drew (fun hHeld => ?_)
      have Vd := Lib.hid (V.out.go (bdrew _))
      refine tk 0 ?_ rfl ?_ ?_; rotate_left; focus (intro w hSw; clear hSw; go_simp; try (with_reducible rfl))
      try simp only [Act.put, sA, sZ, sS]
      refine tk 1 ?_ rfl ?_ ?_; rotate_left; focus (intro w hSw; clear hSw; go_simp; try (with_reducible rfl))
      try simp only [Act.put, sA, sZ, sS]
      refine tk 2 ?_ rfl ?_ ?_; rotate_left; focus (intro w hSw; clear hSw; go_simp; try (with_reducible rfl))
      try simp only [Act.put, sA, sZ, sS]
      refine tk 3 ?_ rfl ?_ ?_; rotate_left; focus (intro w hSw; clear hSw; go_simp; try (with_reducible rfl))
      try simp only [Act.put, sA, sZ, sS]
      refine tk 4 ?_ rfl ?_ ?_; rotate_left; focus (intro w hSw; clear hSw; go_simp; try (with_reducible rfl))
      try simp only [Act.put, sA, sZ, sS]
      refine tk 5 ?_ rfl ?_ ?_; rotate_left; focus (intro w hSw; clear hSw; go_simp; try (with_reducible rfl))
      try simp only [Act.put, sA, sZ, sS]
      refine tk 6 ?_ rfl ?_ ?_; rotate_left; focus (intro w hSw; clear hSw; go_simp; try (with_reducible rfl))
      try simp only [Act.put, sA, sZ, sS]
      refine tk 7 ?_ rfl ?_ ?_; rotate_left; focus (intro w hSw; clear hSw; go_simp; try (with_reducible rfl))
      try simp only [Act.put, sA, sZ, sS]
      refine tk 8 ?_ rfl ?_ ?_; rotate_left
      · intro wl hSw
        have hSw : Keep _ wl := hSw
        have k0 : wl.cell? ⟨gd, j, none⟩ = some (.slice (va (xn : Int)) (vn (xn : Int)) (vc (xn : Int))) := (hSw _ (.head _)).1
        clear hSw
        go_simp
        try (with_reducible rfl)
      try simp only [Act.put, sA, sZ, sS]
      refine tk 9 ?_ rfl ?_ ?_; rotate_left; focus (intro w hSw; clear hSw; go_simp; try (with_reducible rfl))
      try simp only [Act.put, sA, sZ, sS]
      refine tk 10 ?_ rfl ?_ ?_; rotate_left; focus (intro w hSw; clear hSw; go_simp; try (with_reducible rfl))
      try simp only [Act.put, sA, sZ, sS]
      refine tk 11 ?_ rfl ?_ ?_; rotate_left; focus (intro w hSw; clear hSw; go_simp; try (with_reducible rfl))
      try simp only [Act.put, sA, sZ, sS]
      refine tk 12 ?_ rfl ?_ ?_; rotate_left; focus (intro w hSw; clear hSw; go_simp; try (with_reducible rfl))
      try simp only [Act.put, sA, sZ, sS]
      refine tk 13 ?_ rfl ?_ ?_; rotate_left
      · intro wl hSw
        have hSw : Keep _ wl := hSw
        have k0 : wl.cell? ⟨gd, p, none⟩ = some (.slice (va (q : Int)) (vn (q : Int)) (vc (q : Int))) := (hSw _ (.tail _ (.head _))).1
        clear hSw
        go_simp
        try (with_reducible rfl)
      try simp only [Act.put, sA, sZ, sS]
      refine wpAnyH_ready (rs := [14]) (by kernel_rfl) (by simp) ?_
      refine AllReadyH.cons (List.getElem?_toArray.trans rfl) (fun K hK => ?_) AllReadyH.nil
      go_simp
      refine (HCC.out _ _ Vd.out xn q (by omega) (by omega)).mono ?_
      rintro e w4 ⟨z, rfl, hz, b4⟩
      try go_wp2_with fail
      have HZZ := Lib.hid hz
      have VC := Lib.hid (Vd.out.go b4)
      clear hz
      refine hK.out _ _ (hHeld.go b4) (fun hHeld => ?_)
      clear hK K
      try simp only [Act.put, sA, sZ, sS]
      refine tk 15 ?_ rfl ?_ ?_; rotate_left; focus (intro w hSw; clear hSw; go_simp; try (with_reducible rfl))
      try simp only [Act.put, sA, sZ, sS]
      refine tk 16 ?_ rfl ?_ ?_; rotate_left; focus (intro w hSw; clear hSw; go_simp; try (with_reducible rfl))
      try simp only [Act.put, sA, sZ, sS]
      refine wpAnyH_done (by kernel_rfl) ?_ _
      clear hKp hHeld c0 c1 cb
      by_cases hz : z < 0
      case pos =>
        have HKQ := Lib.hid (show key (xn : Int) < key (Z.getD k' 0) by rw [HQ.out]; exact HZZ.out.1 hz)
        go_upto_region 6 with fail
        have hKp : Keep [] w4 := fun _ h => by simp at h
        refine wp_region_held_drew (S := Keep _) (by kernel_rfl) hKp.drew (fun hHeld => ?_)
        have VCd := Lib.hid (VC.out.go (bdrew _))
        refine tk 0 ?_ rfl ?_ ?_; rotate_left; focus (intro w hSw; clear hSw; go_simp; try (with_reducible rfl))
        try simp only [Act.put, sA, sZ, sS]
        refine tk 1 ?_ rfl ?_ ?_; rotate_left; focus (intro w hSw; clear hSw; go_simp; try (with_reducible rfl))
        try simp only [Act.put, sA, sZ, sS]
        refine tk 2 ?_ rfl ?_ ?_; rotate_left; focus (intro w hSw; clear hSw; go_simp; try (with_reducible rfl))
        try simp only [Act.put, sA, sZ, sS]
        refine tk 3 ?_ rfl ?_ ?_; rotate_left; focus (intro w hSw; clear hSw; go_simp; try (with_reducible rfl))
        try simp only [Act.put, sA, sZ, sS]
        refine tk 4 ?_ rfl ?_ ?_; rotate_left; focus (intro w hSw; clear hSw; go_simp; try (with_reducible rfl))
        try simp only [Act.put, sA, sZ, sS]
        refine tk 5 ?_ rfl ?_ ?_; rotate_left; focus (intro w hSw; clear hSw; go_simp; try (with_reducible rfl))
        try simp only [Act.put, sA, sZ, sS]
        refine tk 6 ?_ rfl ?_ ?_; rotate_left; focus (intro w hSw; clear hSw; go_simp; try (with_reducible rfl))
        try simp only [Act.put, sA, sZ, sS]
        refine tk 7 ?_ rfl ?_ ?_; rotate_left; focus (intro w hSw; clear hSw; go_simp; try (with_reducible rfl))
        try simp only [Act.put, sA, sZ, sS]
        refine tk 8 ?_ rfl ?_ ?_; rotate_left; focus (intro w hSw; clear hSw; go_simp; try (with_reducible rfl))
        try simp only [Act.put, sA, sZ, sS]
        refine tk 10 ?_ rfl ?_ ?_; rotate_left; focus (intro w hSw; clear hSw; go_simp; try (with_reducible rfl))
        try simp only [Act.put, sA, sZ, sS]
        refine tk 11 ?_ rfl ?_ ?_; rotate_left; focus (intro w hSw; clear hSw; go_simp; try (with_reducible rfl))
        try simp only [Act.put, sA, sZ, sS]
        refine tk 12 ?_ rfl ?_ ?_; rotate_left; focus (intro w hSw; clear hSw; go_simp; try (with_reducible rfl))
        try simp only [Act.put, sA, sZ, sS]
        refine wpAnyH_ready (rs := [9, 13]) (by kernel_rfl) (by simp) ?_
        refine AllReadyH.cons (List.getElem?_toArray.trans rfl) (fun K hK => ?_) ?_
        · have yL := (VCd.out.val_get (i := 0) rfl HYJ.out).1
          go_simp
          refine hK.out _ _ (hHeld) (fun hHeld => ?_)
          clear hK K
          try simp only [Act.put, sA, sZ, sS]
          refine wpAnyH_ready (rs := [13]) (by kernel_rfl) (by simp) ?_
          refine AllReadyH.cons (List.getElem?_toArray.trans rfl) (fun K hK => ?_) AllReadyH.nil
          have yL := (VCd.out.val_get (i := 0) rfl HXI.out).1
          go_simp
          refine hK.out _ _ (hHeld) (fun hHeld => ?_)
          clear hK K
          try simp only [Act.put, sA, sZ, sS]
          refine tk 14 ?_ rfl ?_ ?_; rotate_left; focus (intro w hSw; clear hSw; go_simp; try (with_reducible rfl))
          try simp only [Act.put, sA, sZ, sS]
          refine wpAnyH_ready (rs := [15]) (by kernel_rfl) (by simp) ?_
          refine AllReadyH.cons (List.getElem?_toArray.trans rfl) (fun K hK => ?_) AllReadyH.nil
          obtain ⟨t0, u0, v0⟩ := VCd.out.val_get (i := 0) rfl HXI.out
          have VS1 := Lib.hid (show Hp _ (_ :: _) ((w4.setCell ⟨gd, j, none⟩ (.slice (va (q : Int)) (vn (q : Int)) (vc (q : Int)))).drew) from VCd.out.val_set (i := 0) rfl (j) (q : Int))
          go_simp
          refine hK.out _ _ (fun _ h => by simp at h) (fun hHeld => ?_)
          clear hK K
          try simp only [Act.put, sA, sZ, sS]
          refine tk 16 ?_ rfl ?_ ?_; rotate_left; focus (intro w hSw; clear hSw; go_simp; try (with_reducible rfl))
          try simp only [Act.put, sA, sZ, sS]
          refine wpAnyH_ready (rs := [17]) (by kernel_rfl) (by simp) ?_
          refine AllReadyH.cons (List.getElem?_toArray.trans rfl) (fun K hK => ?_) AllReadyH.nil
          obtain ⟨t0, u0, v0⟩ := VS1.out.val_at (i := 0) rfl (j := p) (by rw [List.length_set, HLL.out]; omega)
          have VS2 := VS1.out.val_set (i := 0) rfl (p) (xn : Int)
          rw [swp_eq HXI.out HYJ.out] at VS2
          have VS2 := Lib.hid VS2
          go_simp
          refine hK.out _ _ (fun _ h => by simp at h) (fun hHeld => ?_)
          clear hK K
          try simp only [Act.put, sA, sZ, sS]
          refine wpAnyH_done (by kernel_rfl) ?_ _
          clear hHeld
          have VN := Lib.hid (show Hp W (vals va vn vc (some ⟨gd, 0, none⟩) n c (mvR P (xn : Int) (Z ++ D) k') :: l) _ by rw [← HSW.out]; exact VS2.out)
          have HI2 := Lib.hid (show ∀ t, k' ≤ t → t < s → key (xn : Int) < key (Z.getD t 0) from fun t h1 h2 => by
            by_cases e : t = k'
            · rw [e]; exact HKQ.out
            · exact HI.out t (by omega) h2)
          clear VS1 VS2
          go_wp2_with fail
          go_roundw
          case rel => exact ⟨k', by rw [show a + k' = p by omega], by omega, HI2.out, VN.out⟩
          case measure => simp [intOf]; omega
        refine AllReadyH.cons (List.getElem?_toArray.trans rfl) (fun K hK => ?_) ?_
        · have yL := (VCd.out.val_get (i := 0) rfl HXI.out).1
          go_simp
          refine hK.out _ _ (hHeld) (fun hHeld => ?_)
          clear hK K
          try simp only [Act.put, sA, sZ, sS]
          refine wpAnyH_ready (rs := [9]) (by kernel_rfl) (by simp) ?_
          refine AllReadyH.cons (List.getElem?_toArray.trans rfl) (fun K hK => ?_) AllReadyH.nil
          have yL := (VCd.out.val_get (i := 0) rfl HYJ.out).1
          go_simp
          refine hK.out _ _ (hHeld) (fun hHeld => ?_)
          clear hK K
          try simp only [Act.put, sA, sZ, sS]
          refine tk 14 ?_ rfl ?_ ?_; rotate_left; focus (intro w hSw; clear hSw; go_simp; try (with_reducible rfl))
          try simp only [Act.put, sA, sZ, sS]
          refine wpAnyH_ready (rs := [15]) (by kernel_rfl) (by simp) ?_
          refine AllReadyH.cons (List.getElem?_toArray.trans rfl) (fun K hK => ?_) AllReadyH.nil
          obtain ⟨t0, u0, v0⟩ := VCd.out.val_get (i := 0) rfl HXI.out
          have VS1 := Lib.hid (show Hp _ (_ :: _) ((w4.setCell ⟨gd, j, none⟩ (.slice (va (q : Int)) (vn (q : Int)) (vc (q : Int)))).drew) from VCd.out.val_set (i := 0) rfl (j) (q : Int))
          go_simp
          refine hK.out _ _ (fun _ h => by simp at h) (fun hHeld => ?_)
          clear hK K
          try simp only [Act.put, sA, sZ, sS]
          refine tk 16 ?_ rfl ?_ ?_; rotate_left; focus (intro w hSw; clear hSw; go_simp; try (with_reducible rfl))
          try simp only [Act.put, sA, sZ, sS]
          refine wpAnyH_ready (rs := [17]) (by kernel_rfl) (by simp) ?_
          refine AllReadyH.cons (List.getElem?_toArray.trans rfl) (fun K hK => ?_) AllReadyH.nil
          obtain ⟨t0, u0, v0⟩ := VS1.out.val_at (i := 0) rfl (j := p) (by rw [List.length_set, HLL.out]; omega)
          have VS2 := VS1.out.val_set (i := 0) rfl (p) (xn : Int)
          rw [swp_eq HXI.out HYJ.out] at VS2
          have VS2 := Lib.hid VS2
          go_simp
          refine hK.out _ _ (fun _ h => by simp at h) (fun hHeld => ?_)
          clear hK K
          try simp only [Act.put, sA, sZ, sS]
          refine wpAnyH_done (by kernel_rfl) ?_ _
          clear hHeld
          have VN := Lib.hid (show Hp W (vals va vn vc (some ⟨gd, 0, none⟩) n c (mvR P (xn : Int) (Z ++ D) k') :: l) _ by rw [← HSW.out]; exact VS2.out)
          have HI2 := Lib.hid (show ∀ t, k' ≤ t → t < s → key (xn : Int) < key (Z.getD t 0) from fun t h1 h2 => by
            by_cases e : t = k'
            · rw [e]; exact HKQ.out
            · exact HI.out t (by omega) h2)
          clear VS1 VS2
          go_wp2_with fail
          go_roundw
          case rel => exact ⟨k', by rw [show a + k' = p by omega], by omega, HI2.out, VN.out⟩
          case measure => simp [intOf]; omega
        exact AllReadyH.nil
      have HKN := Lib.hid (show ¬ key (xn : Int) < key (Z.getD k' 0) by rw [HQ.out]; exact fun h => hz (HZZ.out.2 h))
      have VX := Lib.hid (show Hp W (vals va vn vc (some ⟨gd, 0, none⟩) n c (mvR P (xn : Int) (Z ++ D) (k' + 1)) :: l) w4 by rw [← HLQ.out]; exact VC.out)
      have hm := mrg_last (key := key) (y := (xn : Int)) (k := k' + 1) HSO.out HLT.out (by rw [HZL.out]; exact hks) (fun t h => by have h1 := pw_le HSO.out (show t ≤ k' by omega) (by rw [HZL.out]; omega); have h2 := HKN.out; omega) (fun t h1 h2 => HI.out t h1 (by rw [← HZL.out]; exact h2))
      have HM := Lib.hid hm
      have V9 := Lib.hid (show Hp W (vals va vn vc (some ⟨gd, 0, none⟩) n c (P ++ (Z.take (k' + 1) ++ (xn : Int) :: Z.drop (k' + 1)) ++ (X.drop (s + 1) ++ T)) :: l) _ by
        have h := VX.out
        rw [mvR_in (by rw [HZL.out]; exact hks), HDE.out] at h
        exact h)
      have HPM := Lib.hid (show (Z.take (k' + 1) ++ (xn : Int) :: Z.drop (k' + 1)).Perm (X.take (s + 1)) by
        rw [HTS.out]
        exact HM.out.1.trans (List.Perm.append_right _ HPE.out))
      clear hm
      go_wp2_with fail
      go_roundw
      case rel => exact ⟨s + 1, _, by go_num, by omega, by omega, HPM.out, HM.out.2, V9.out⟩
      case measure => simp [intOf]; omega
end Go.Proofs.YtjamfcihjendiaaGreat.St
