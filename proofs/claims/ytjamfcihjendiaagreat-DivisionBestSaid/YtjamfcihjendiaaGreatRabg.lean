/- Several texts in one: Sc. -/
import Derived.Test.YtjamfcihjendiaaGreatRabf
import Derived.Deep.RegionLaw
namespace Go.Proofs.YtjamfcihjendiaaGreat.St
open Go.RowKit
set_option linter.unusedVariables false
set_option linter.unusedSimpArgs false
set_option maxRecDepth 100000

theorem swp_eq {L : List Int} {i j : Nat} {x y : Int} (hx : L[i]? = some x) (hy : L[j]? = some y) : (L.set i y).set j x = swp L i j := by
  unfold swp
  rw [List.getD_eq_getElem?_getD, List.getD_eq_getElem?_getD, hx, hy]; rfl
theorem get_some {L : List Int} {i : Nat} (h : i < L.length) : L[i]? = some (L.getD i 0) := by
  rw [List.getD_eq_getElem?_getD, List.getElem?_eq_getElem h]; rfl
set_option maxHeartbeats 32000000 in
theorem swapRange_any {W : World} {l : List Itm} {va : Int → Option Addr} {vn vc : Int → Nat} (gd n c : Nat) (fv : Value) (P X M Y T : List Int) (a b K : Nat) (w : World) (hP : P.length = a) (hX : X.length = K) (hY : Y.length = K) (hb : a + K + M.length = b) (hn : b + K + T.length = n) (hbig : n ≤ 1000000)
    (hV : Hp W (vals va vn vc (some ⟨gd, 0, none⟩) n c (P ++ X ++ M ++ Y ++ T) :: l) w) :
    Calls Tryz.prog 111 #[.slice (some ⟨gd, 0, none⟩) n c, .int .i64 (a : Int), .int .i64 (b : Int), .int .i64 (K : Int), fv] w fun e w' => e = .returned (.tuple #[]) ∧ Hp W (vals va vn vc (some ⟨gd, 0, none⟩) n c (P ++ Y ++ M ++ X ++ T) :: l) w' := by
  have V0 := Lib.hid (show Hp W (vals va vn vc (some ⟨gd, 0, none⟩) n c (swR P X M Y T 0) :: l) w by rw [swR_zero]; exact hV)
  have HEND := Lib.hid (swR_all (P := P) (M := M) (T := T) hX hY)
  have HST := Lib.hid (show ∀ k, k < K → swp (swR P X M Y T k) (a + k) (b + k) = swR P X M Y T (k + 1) from fun k hk => by rw [← swR_step hX hY hk, hP, hb])
  have HLN := Lib.hid (show ∀ k, k ≤ K → (swR P X M Y T k).length = n from fun k hk => by rw [swR_len hX hY hk]; omega)
  have hbn : b + K ≤ n := by omega
  have hab : a ≤ b := by omega
  clear hV hP hX hY hb hn
  obtain ⟨f, hf⟩ : ∃ f, f = swR P X M Y T := ⟨_, rfl⟩
  rw [← hf] at V0 HEND HST HLN
  clear hf
  go_enter Tryz.func111, Tryz.ntmps111
  go_wp2_with fail
  go_loopw [10] (fun cv wr => ∃ k : Nat, cv = .int .i64 (k : Int) ∧ k ≤ K ∧ Hp W (vals va vn vc (some ⟨gd, 0, none⟩) n c (f k) :: l) wr) (fun cv _ => K - (intOf cv).toNat)
  case atStart => exact ⟨0, rfl, Nat.zero_le _, V0.out⟩
  case round =>
    clear V0
    obtain ⟨k, rfl, hkK, hV⟩ := hrel
    obtain ⟨wi, rfl⟩ : ∃ wi : World, wi = wr := ⟨_, rfl⟩
    have V := Lib.hid hV
    clear hV
    by_cases hlt : k < K
    case neg =>
      obtain rfl : K = k := by omega
      go_wp2_with fail
      exact bodyPost_end (results_none rfl _ _ _) rfl ⟨rfl, by rw [← HEND.out]; exact V.out⟩
    obtain ⟨L, hL⟩ : ∃ L, L = f k := ⟨_, rfl⟩
    have HLL := Lib.hid (show L.length = n by rw [hL]; exact HLN.out k hkK)
    have HSW := Lib.hid (show swp L (a + k) (b + k) = f (k + 1) by rw [hL]; exact HST.out k hlt)
    rw [← hL] at V
    obtain ⟨x, hx⟩ : ∃ x, L[a + k]? = some x := ⟨_, get_some (by rw [HLL.out]; omega)⟩
    obtain ⟨y, hy⟩ : ∃ y, L[b + k]? = some y := ⟨_, get_some (by rw [HLL.out]; omega)⟩
    have HXI := Lib.hid hx
    have HYJ := Lib.hid hy
    clear hx hy hL
    have g1 : IntKind.i64.wrap ((a : Int) + (k : Int)) = ((a + k : Nat) : Int) := by rw [IntWalk.i64_in _ (by omega)]; omega
    have g2 : IntKind.i64.wrap ((b : Int) + (k : Int)) = ((b + k : Nat) : Int) := by rw [IntWalk.i64_in _ (by omega)]; omega
    obtain ⟨p, hp⟩ : ∃ p, p = a + k := ⟨_, rfl⟩
    obtain ⟨q, hq⟩ : ∃ q, q = b + k := ⟨_, rfl⟩
    rw [← hp] at g1 HXI HSW
    rw [← hq] at g2 HYJ HSW
    have hpn : p < n := by omega
    have hqn : q < n := by omega
    clear hp hq
    go_upto_region 3 with fail
    have hKp : Keep [] wi := fun _ h => by simp at h
    refine wp_region_held_drew (S := Keep _) (by kernel_rfl) hKp.drew (fun hHeld => ?_)
    have Vd := Lib.hid (V.out.go (bdrew _))
    refine tk 0 ?_ rfl ?_ ?_; rotate_left; focus (intro w hSw; clear hSw; go_simp; try (with_reducible rfl))
    try simp only [Act.put, sA, sZ, sS]
    refine tk 1 ?_ rfl ?_ ?_; rotate_left; focus (intro w hSw; clear hSw; go_simp; try (with_reducible rfl))
    try simp only [Act.put, sA, sZ, sS]
    refine tk 2 ?_ rfl ?_ ?_; rotate_left; focus (intro w hSw; clear hSw; go_simp; try (with_reducible rfl))
    try simp only [Act.put, sA, sZ, sS]
    refine tk 3 ?_ rfl ?_ ?_; rotate_left; focus (intro w hSw; clear hSw; go_simp; try (with_reducible rfl))
    try simp only [Act.put, sA, sZ, sS]
    refine tk 4 ?_ rfl ?_ ?_; rotate_left; focus (intro w hSw; clear hSw; go_simp; try (with_reducible rfl))
    try simp only [Act.put, sA, sZ, sS]
    refine tk 5 ?_ rfl ?_ ?_; rotate_left; focus (intro w hSw; clear hSw; go_simp; try (with_reducible rfl))
    try simp only [Act.put, sA, sZ, sS]
    refine tk 6 ?_ rfl ?_ ?_; rotate_left; focus (intro w hSw; clear hSw; go_simp; try (with_reducible rfl))
    try simp only [Act.put, sA, sZ, sS]
    refine tk 7 ?_ rfl ?_ ?_; rotate_left; focus (intro w hSw; clear hSw; go_simp; try (with_reducible rfl))
    try simp only [Act.put, sA, sZ, sS]
    refine tk 8 ?_ rfl ?_ ?_; rotate_left; focus (intro w hSw; clear hSw; go_simp; try (with_reducible rfl))
    try simp only [Act.put, sA, sZ, sS]
    refine tk 9 ?_ rfl ?_ ?_; rotate_left; focus (intro w hSw; clear hSw; go_simp; try (with_reducible rfl))
    try simp only [Act.put, sA, sZ, sS]
    refine tk 10 ?_ rfl ?_ ?_; rotate_left; focus (intro w hSw; clear hSw; go_simp; try (with_reducible rfl))
    try simp only [Act.put, sA, sZ, sS]
    refine tk 11 ?_ rfl ?_ ?_; rotate_left; focus (intro w hSw; clear hSw; go_simp; try (with_reducible rfl))
    try simp only [Act.put, sA, sZ, sS]
    refine tk 12 ?_ rfl ?_ ?_; rotate_left; focus (intro w hSw; clear hSw; go_simp; try (with_reducible rfl))
    try simp only [Act.put, sA, sZ, sS]
    refine tk 14 ?_ rfl ?_ ?_; rotate_left; focus (intro w hSw; clear hSw; go_simp; try (with_reducible rfl))
    try simp only [Act.put, sA, sZ, sS]
    refine tk 15 ?_ rfl ?_ ?_; rotate_left; focus (intro w hSw; clear hSw; go_simp; try (with_reducible rfl))
    try simp only [Act.put, sA, sZ, sS]
    refine tk 16 ?_ rfl ?_ ?_; rotate_left; focus (intro w hSw; clear hSw; go_simp; try (with_reducible rfl))
    try simp only [Act.put, sA, sZ, sS]
    refine tk 17 ?_ rfl ?_ ?_; rotate_left; focus (intro w hSw; clear hSw; go_simp; try (with_reducible rfl))
    try simp only [Act.put, sA, sZ, sS]
    refine tk 18 ?_ rfl ?_ ?_; rotate_left; focus (intro w hSw; clear hSw; go_simp; try (with_reducible rfl))
    try simp only [Act.put, sA, sZ, sS]
    refine wpAnyH_ready (rs := [13, 19]) (by kernel_rfl) (by simp) ?_
    refine AllReadyH.cons (List.getElem?_toArray.trans rfl) (fun K hK => ?_) ?_
    · have yL := (Vd.out.val_get (i := 0) rfl HYJ.out).1
      go_simp
      refine hK.out _ _ (hHeld) (fun hHeld => ?_)
      clear hK K
      try simp only [Act.put, sA, sZ, sS]
      refine wpAnyH_ready (rs := [19]) (by kernel_rfl) (by simp) ?_
      refine AllReadyH.cons (List.getElem?_toArray.trans rfl) (fun K hK => ?_) AllReadyH.nil
      have yL := (Vd.out.val_get (i := 0) rfl HXI.out).1
      go_simp
      refine hK.out _ _ (hHeld) (fun hHeld => ?_)
      clear hK K
      try simp only [Act.put, sA, sZ, sS]
      refine tk 20 ?_ rfl ?_ ?_; rotate_left; focus (intro w hSw; clear hSw; go_simp; try (with_reducible rfl))
      try simp only [Act.put, sA, sZ, sS]
      refine wpAnyH_ready (rs := [21]) (by kernel_rfl) (by simp) ?_
      refine AllReadyH.cons (List.getElem?_toArray.trans rfl) (fun K hK => ?_) AllReadyH.nil
      obtain ⟨t0, u0, v0⟩ := Vd.out.val_get (i := 0) rfl HXI.out
      have VS1 := Lib.hid (show Hp _ (_ :: _) ((wi.setCell ⟨gd, p, none⟩ (.slice (va (y)) (vn (y)) (vc (y)))).drew) from Vd.out.val_set (i := 0) rfl (p) (y))
      go_simp
      refine hK.out _ _ (fun _ h => by simp at h) (fun hHeld => ?_)
      clear hK K
      try simp only [Act.put, sA, sZ, sS]
      refine tk 22 ?_ rfl ?_ ?_; rotate_left; focus (intro w hSw; clear hSw; go_simp; try (with_reducible rfl))
      try simp only [Act.put, sA, sZ, sS]
      refine wpAnyH_ready (rs := [23]) (by kernel_rfl) (by simp) ?_
      refine AllReadyH.cons (List.getElem?_toArray.trans rfl) (fun K hK => ?_) AllReadyH.nil
      obtain ⟨t0, u0, v0⟩ := VS1.out.val_at (i := 0) rfl (j := q) (by rw [List.length_set, HLL.out]; omega)
      have VS2 := VS1.out.val_set (i := 0) rfl (q) (x)
      rw [swp_eq HXI.out HYJ.out] at VS2
      have VS2 := Lib.hid VS2
      go_simp
      refine hK.out _ _ (fun _ h => by simp at h) (fun hHeld => ?_)
      clear hK K
      try simp only [Act.put, sA, sZ, sS]
      refine wpAnyH_done (by kernel_rfl) ?_ _
      clear hHeld g1 g2
      have VS3 := Lib.hid (show Hp W (vals va vn vc (some ⟨gd, 0, none⟩) n c (f (k + 1)) :: l) _ by rw [← HSW.out]; exact VS2.out)
      clear VS1 VS2
      go_wp2_with fail
      go_roundw
      case rel => exact ⟨k + 1, by go_num, by omega, VS3.out⟩
      case measure => simp [intOf]; omega
    refine AllReadyH.cons (List.getElem?_toArray.trans rfl) (fun K hK => ?_) ?_
    · have yL := (Vd.out.val_get (i := 0) rfl HXI.out).1
      go_simp
      refine hK.out _ _ (hHeld) (fun hHeld => ?_)
      clear hK K
      try simp only [Act.put, sA, sZ, sS]
      refine wpAnyH_ready (rs := [13]) (by kernel_rfl) (by simp) ?_
      refine AllReadyH.cons (List.getElem?_toArray.trans rfl) (fun K hK => ?_) AllReadyH.nil
      have yL := (Vd.out.val_get (i := 0) rfl HYJ.out).1
      go_simp
      refine hK.out _ _ (hHeld) (fun hHeld => ?_)
      clear hK K
      try simp only [Act.put, sA, sZ, sS]
      refine tk 20 ?_ rfl ?_ ?_; rotate_left; focus (intro w hSw; clear hSw; go_simp; try (with_reducible rfl))
      try simp only [Act.put, sA, sZ, sS]
      refine wpAnyH_ready (rs := [21]) (by kernel_rfl) (by simp) ?_
      refine AllReadyH.cons (List.getElem?_toArray.trans rfl) (fun K hK => ?_) AllReadyH.nil
      obtain ⟨t0, u0, v0⟩ := Vd.out.val_get (i := 0) rfl HXI.out
      have VS1 := Lib.hid (show Hp _ (_ :: _) ((wi.setCell ⟨gd, p, none⟩ (.slice (va (y)) (vn (y)) (vc (y)))).drew) from Vd.out.val_set (i := 0) rfl (p) (y))
      go_simp
      refine hK.out _ _ (fun _ h => by simp at h) (fun hHeld => ?_)
      clear hK K
      try simp only [Act.put, sA, sZ, sS]
      refine tk 22 ?_ rfl ?_ ?_; rotate_left; focus (intro w hSw; clear hSw; go_simp; try (with_reducible rfl))
      try simp only [Act.put, sA, sZ, sS]
      refine wpAnyH_ready (rs := [23]) (by kernel_rfl) (by simp) ?_
      refine AllReadyH.cons (List.getElem?_toArray.trans rfl) (fun K hK => ?_) AllReadyH.nil
      obtain ⟨t0, u0, v0⟩ := VS1.out.val_at (i := 0) rfl (j := q) (by rw [List.length_set, HLL.out]; omega)
      have VS2 := VS1.out.val_set (i := 0) rfl (q) (x)
      rw [swp_eq HXI.out HYJ.out] at VS2
      have VS2 := Lib.hid VS2
      go_simp
      refine hK.out _ _ (fun _ h => by simp at h) (fun hHeld => ?_)
      clear hK K
      try simp only [Act.put, sA, sZ, sS]
      refine wpAnyH_done (by kernel_rfl) ?_ _
      clear hHeld g1 g2
      have VS3 := Lib.hid (show Hp W (vals va vn vc (some ⟨gd, 0, none⟩) n c (f (k + 1)) :: l) _ by rw [← HSW.out]; exact VS2.out)
      clear VS1 VS2
      go_wp2_with fail
      go_roundw
      case rel => exact ⟨k + 1, by go_num, by omega, VS3.out⟩
      case measure => simp [intOf]; omega
    exact AllReadyH.nil
set_option maxHeartbeats 32000000 in
theorem rotate_any {W : World} {l : List Itm} {va : Int → Option Addr} {vn vc : Int → Nat} (gd n c : Nat) (fv : Value) (P X Y S : List Int) (a m b : Nat) (w : World) (hP : P.length = a) (hX : a + X.length = m) (hY : m + Y.length = b) (hS : b + S.length = n) (hbig : n ≤ 1000000) (ham : a < m) (hmb : m < b)
    (hV : Hp W (vals va vn vc (some ⟨gd, 0, none⟩) n c (P ++ X ++ (Y ++ S)) :: l) w) :
    Calls Tryz.prog 95 #[.slice (some ⟨gd, 0, none⟩) n c, .int .i64 (a : Int), .int .i64 (m : Int), .int .i64 (b : Int), fv] w fun e w' => e = .returned (.tuple #[]) ∧ Hp W (vals va vn vc (some ⟨gd, 0, none⟩) n c (P ++ Y ++ (X ++ S)) :: l) w' := by
  have V0 := Lib.hid hV
  have HP := Lib.hid hP
  have HX := Lib.hid hX
  have HY := Lib.hid hY
  have HS := Lib.hid hS
  have hbn : b ≤ n := by omega
  clear hV hP hX hY hS
  obtain ⟨i0, hi0⟩ : ∃ i0, i0 = m - a := ⟨_, rfl⟩
  obtain ⟨j0, hj0⟩ : ∃ j0, j0 = b - m := ⟨_, rfl⟩
  have h1 : IntKind.i64.wrap ((m : Int) - (a : Int)) = (i0 : Int) := by rw [IntWalk.i64_in _ (by omega)]; omega
  have h2 : IntKind.i64.wrap ((b : Int) - (m : Int)) = (j0 : Int) := by rw [IntWalk.i64_in _ (by omega)]; omega
  have hi1 : a + i0 = m := by omega
  have hj1 : m + j0 = b := by omega
  clear hi0 hj0
  go_enter Tryz.func95, Tryz.ntmps95
  go_wp2_with fail
  go_loopw [10, 11] (fun iv jv wr => ∃ (i j : Nat) (D X' Y' E : List Int), iv = .int .i64 (i : Int) ∧ jv = .int .i64 (j : Int) ∧ 0 < i ∧ 0 < j ∧ i ≤ m ∧ m + j ≤ b ∧ P.length + D.length + i = m ∧ X'.length = i ∧ Y'.length = j ∧ m + j + E.length = b ∧ D ++ Y' ++ X' ++ E = Y ++ X ∧ Hp W (vals va vn vc (some ⟨gd, 0, none⟩) n c ((P ++ D) ++ X' ++ [] ++ Y' ++ (E ++ S)) :: l) wr) (fun iv jv _ => (intOf iv).toNat + (intOf jv).toNat)
  case atStart => exact ⟨i0, j0, [], X, Y, [], rfl, rfl, by omega, by omega, by omega, by omega, by rw [HP.out]; exact hi1, by have := HX.out; omega, by have := HY.out; omega, by show m + j0 + 0 = b; omega, by simp, by simpa using V0.out⟩
  case round =>
    clear V0 h1 h2
    obtain ⟨i, j, D, X', Y', E, rfl, rfl, hi, hj, him, hjb, hd, hx, hy, he, hdy, hV⟩ := hrel
    obtain ⟨wi, rfl⟩ : ∃ wi : World, wi = wr := ⟨_, rfl⟩
    have V := Lib.hid hV
    have HD := Lib.hid hd
    have HX' := Lib.hid hx
    have HY' := Lib.hid hy
    have HE := Lib.hid he
    have HDY := Lib.hid hdy
    clear hV hd hx hy he hdy
    obtain ⟨p, hp⟩ : ∃ p, p = m - i := ⟨_, rfl⟩
    have g1 : IntKind.i64.wrap ((m : Int) - (i : Int)) = (p : Int) := by rw [IntWalk.i64_in _ (by omega)]; omega
    have hpi : p + i = m := by omega
    clear hp
    have HPD := Lib.hid (show (P ++ D).length = p by rw [List.length_append]; have := HD.out; omega)
    have HES := Lib.hid (show (E ++ S).length + b = n + E.length by rw [List.length_append]; have := HS.out; omega)
    by_cases hij : i = j
    case pos =>
      subst hij
      have g2 : ((i : Int) != (i : Int)) = false := bne_no rfl
      go_wp2_with fail
      refine (swapRange_any gd n c fv (P ++ D) X' [] Y' (E ++ S) p m i wi HPD.out HX'.out HY'.out (by show p + i + 0 = m; omega) (by rw [List.length_append]; have := HS.out; have := HE.out; omega) hbig V.out).mono ?_
      rintro e w2 ⟨rfl, hp2⟩
      have V2 := Lib.hid hp2
      clear hp2
      go_wp2_with fail
      refine bodyPost_end (results_none rfl _ _ _) rfl ⟨rfl, ?_⟩
      have h3 := V2.out
      rw [show (P ++ D) ++ Y' ++ [] ++ X' ++ (E ++ S) = P ++ (D ++ Y' ++ X' ++ E) ++ S by simp only [List.append_assoc, List.nil_append], HDY.out] at h3
      rw [show P ++ Y ++ (X ++ S) = P ++ (Y ++ X) ++ S by simp only [List.append_assoc]]
      exact h3
    case neg =>
      have g2 : ((i : Int) != (j : Int)) = true := bne_yes (by omega)
      by_cases hlt : j < i
      case pos =>
        have hsp : X' = X'.take j ++ X'.drop j := (List.take_append_drop j X').symm
        have l1 : (X'.take j).length = j := by rw [List.length_take, HX'.out]; omega
        have l2 : (X'.drop j).length = i - j := by rw [List.length_drop, HX'.out]
        obtain ⟨X1, hX1⟩ : ∃ X1, X1 = X'.take j := ⟨_, rfl⟩
        obtain ⟨X2, hX2⟩ : ∃ X2, X2 = X'.drop j := ⟨_, rfl⟩
        rw [← hX1, ← hX2] at hsp
        rw [← hX1] at l1
        rw [← hX2] at l2
        have HSP := Lib.hid hsp
        have L1 := Lib.hid l1
        have L2 := Lib.hid l2
        have hij1 : ¬ i = j := hij
        clear hX1 hX2 hsp l1 l2 hij
        obtain ⟨i', hi'⟩ : ∃ i', i' = i - j := ⟨_, rfl⟩
        have g3 : IntKind.i64.wrap ((i : Int) - (j : Int)) = (i' : Int) := by rw [IntWalk.i64_in _ (by omega)]; omega
        have hii : i' + j = i := by omega
        clear hi'
        go_wp2_with fail
        refine (swapRange_any gd n c fv (P ++ D) X1 X2 Y' (E ++ S) p m j wi HPD.out L1.out HY'.out (by rw [L2.out]; omega) (by rw [List.length_append]; have := HS.out; have := HE.out; omega) hbig (by
          have h3 := V.out
          rw [HSP.out] at h3
          rw [show P ++ D ++ X1 ++ X2 ++ Y' ++ (E ++ S) = P ++ D ++ (X1 ++ X2) ++ [] ++ Y' ++ (E ++ S) by simp only [List.append_assoc, List.nil_append]]
          exact h3)).mono ?_
        rintro e w2 ⟨rfl, hp2⟩
        have V2 := Lib.hid (show Hp W (vals va vn vc (some ⟨gd, 0, none⟩) n c ((P ++ (D ++ Y')) ++ X2 ++ [] ++ X1 ++ (E ++ S)) :: l) w2 by
          rw [show P ++ (D ++ Y') ++ X2 ++ [] ++ X1 ++ (E ++ S) = P ++ D ++ Y' ++ X2 ++ X1 ++ (E ++ S) by simp only [List.append_assoc, List.nil_append]]
          exact hp2)
        clear hp2
        go_wp2_with fail
        go_roundw
        case rel => exact ⟨i', j, D ++ Y', X2, X1, E, rfl, rfl, by omega, hj, by omega, hjb, by rw [List.length_append]; have := HD.out; have := HY'.out; omega, by have := L2.out; omega, L1.out, HE.out, by rw [← HDY.out, HSP.out]; simp only [List.append_assoc], V2.out⟩
        case measure => simp [intOf]; omega
      case neg =>
        have hlt2 : i < j := by omega
        have hsp : Y' = Y'.take (j - i) ++ Y'.drop (j - i) := (List.take_append_drop (j - i) Y').symm
        have l1 : (Y'.take (j - i)).length = j - i := by rw [List.length_take, HY'.out]; omega
        have l2 : (Y'.drop (j - i)).length = i := by rw [List.length_drop, HY'.out]; omega
        obtain ⟨Y1, hY1⟩ : ∃ Y1, Y1 = Y'.take (j - i) := ⟨_, rfl⟩
        obtain ⟨Y2, hY2⟩ : ∃ Y2, Y2 = Y'.drop (j - i) := ⟨_, rfl⟩
        rw [← hY1, ← hY2] at hsp
        rw [← hY1] at l1
        rw [← hY2] at l2
        have HSP := Lib.hid hsp
        have L1 := Lib.hid l1
        have L2 := Lib.hid l2
        have hij1 : ¬ i = j := hij
        clear hY1 hY2 hsp l1 l2 hij
        obtain ⟨j', hj'⟩ : ∃ j', j' = j - i := ⟨_, rfl⟩
        have g3 : IntKind.i64.wrap ((j : Int) - (i : Int)) = (j' : Int) := by rw [IntWalk.i64_in _ (by omega)]; omega
        have g4 : IntKind.i64.wrap ((m : Int) + (j : Int)) = (m : Int) + (j : Int) := IntWalk.i64_in _ (by omega)
        have g5 : IntKind.i64.wrap ((m : Int) + (j : Int) - (i : Int)) = ((m + j' : Nat) : Int) := by rw [IntWalk.i64_in _ (by omega)]; omega
        have hjj : j' + i = j := by omega
        clear hj'
        obtain ⟨q, hq⟩ : ∃ q, q = m + j' := ⟨_, rfl⟩
        rw [← hq] at g5
        have hq1 : m + j' ≤ q := by omega
        have hq2 : q ≤ m + j' := by omega
        clear hq
        go_wp2_with fail
        refine (swapRange_any gd n c fv (P ++ D) X' Y1 Y2 (E ++ S) p q i wi HPD.out HX'.out L2.out (by rw [L1.out]; omega) (by rw [List.length_append]; have := HS.out; have := HE.out; omega) hbig (by
          have h3 := V.out
          rw [HSP.out] at h3
          rw [show P ++ D ++ X' ++ Y1 ++ Y2 ++ (E ++ S) = P ++ D ++ X' ++ [] ++ (Y1 ++ Y2) ++ (E ++ S) by simp only [List.append_assoc, List.nil_append]]
          exact h3)).mono ?_
        rintro e w2 ⟨rfl, hp2⟩
        have V2 := Lib.hid (show Hp W (vals va vn vc (some ⟨gd, 0, none⟩) n c ((P ++ D) ++ Y2 ++ [] ++ Y1 ++ ((X' ++ E) ++ S)) :: l) w2 by
          rw [show P ++ D ++ Y2 ++ [] ++ Y1 ++ ((X' ++ E) ++ S) = P ++ D ++ Y2 ++ Y1 ++ X' ++ (E ++ S) by simp only [List.append_assoc, List.nil_append]]
          exact hp2)
        clear hp2
        go_wp2_with fail
        go_roundw
        case rel => exact ⟨i, j', D, Y2, Y1, X' ++ E, rfl, rfl, hi, by omega, him, by omega, HD.out, L2.out, by have := L1.out; omega, by rw [List.length_append]; have := HE.out; have := HX'.out; omega, by rw [← HDY.out, HSP.out]; simp only [List.append_assoc], V2.out⟩
        case measure => simp [intOf]; omega
end Go.Proofs.YtjamfcihjendiaaGreat.St
