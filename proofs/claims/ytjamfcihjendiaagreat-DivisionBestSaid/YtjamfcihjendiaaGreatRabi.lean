/- Several texts in one: Se. -/
import Derived.Test.YtjamfcihjendiaaGreatRabh
import Derived.Deep.RegionLaw
namespace Go.Proofs.YtjamfcihjendiaaGreat.St
open Go.RowKit
set_option linter.unusedVariables false
set_option linter.unusedSimpArgs false
set_option maxRecDepth 100000

set_option maxHeartbeats 128000000 in
theorem symLeft_any {W : World} {l : List Itm} {va : Int → Option Addr} {vn vc : Int → Nat} (key : Int → Int) (N gb gd n c : Nat) (HC : CmpOk va vn vc key N gb gd n c W l) (hbig : n ≤ 1000000) (d : Nat) (P X Y S : List Int) (a m b : Nat) (w : World) (hd : b - a ≤ d + 1) (hP : P.length = a) (hX : a + X.length = m) (hY : m + Y.length = b) (hS : b + S.length = n) (ham : a < m) (hmb : m < b)
    (hsX : X.Pairwise (RL key)) (hsY : Y.Pairwise (RL key)) (hlt : ∀ x ∈ X, ∀ y ∈ Y, x < y) (hNX : ∀ x ∈ X, 0 ≤ x ∧ x < (N : Int)) (hNY : ∀ y ∈ Y, 0 ≤ y ∧ y < (N : Int)) (hV : Hp W (vals va vn vc (some ⟨gd, 0, none⟩) n c (P ++ X ++ (Y ++ S)) :: l) w) (h1X : X.length = 1) :
    Calls Tryz.prog 79 #[.slice (some ⟨gd, 0, none⟩) n c, .int .i64 (a : Int), .int .i64 (m : Int), .int .i64 (b : Int), FVal gb] w fun e w' => e = .returned (.tuple #[]) ∧ ∃ Z, Mrg key X Y Z ∧ Hp W (vals va vn vc (some ⟨gd, 0, none⟩) n c (P ++ Z ++ S) :: l) w' := by
  have V0 := Lib.hid hV
  have HCC := Lib.hid HC
  have HP := Lib.hid hP
  have HX := Lib.hid hX
  have HY := Lib.hid hY
  have HS := Lib.hid hS
  have HSX := Lib.hid hsX
  have HSY := Lib.hid hsY
  have HLT := Lib.hid hlt
  have HNX := Lib.hid (show ∀ t, t < X.length → ∃ q : Nat, X.getD t 0 = (q : Int) ∧ q < N from fun t ht => as_nat (hNX _ (getD_mem ht)))
  have HNY := Lib.hid (show ∀ t, t < Y.length → ∃ q : Nat, Y.getD t 0 = (q : Int) ∧ q < N from fun t ht => as_nat (hNY _ (getD_mem ht)))
  have HNX0 := Lib.hid hNX
  have HNY0 := Lib.hid hNY
  have hbn : b ≤ n := by omega
  have hXl1 : a + X.length ≤ m := by omega
  have hXl2 : m ≤ a + X.length := by omega
  have hYl1 : m + Y.length ≤ b := by omega
  have hYl2 : b ≤ m + Y.length := by omega
  clear hV hP hX hY hS hsX hsY hlt hNX hNY HC
  obtain ⟨dm, hdm⟩ : ∃ dm, dm = m - a := ⟨_, rfl⟩
  have h0 : IntKind.i64.wrap ((m : Int) - (a : Int)) = (dm : Int) := by rw [IntWalk.i64_in _ (by omega)]; omega
  have hdm1 : dm ≤ m - a := by omega
  have hdm2 : m - a ≤ dm := by omega
  clear hdm
  obtain ⟨L, hL⟩ : ∃ L, L = P ++ X ++ (Y ++ S) := ⟨_, rfl⟩
  have HLQ := Lib.hid hL
  have HGX := Lib.hid (show ∀ t, t < X.length → L[a + t]? = some (X.getD t 0) from fun t ht => by
    rw [hL, ← HP.out, List.append_assoc, List.getElem?_append_right (by omega), Nat.add_sub_cancel_left, List.getElem?_append_left ht, get_some ht])
  have HGY := Lib.hid (show ∀ t, t < Y.length → L[m + t]? = some (Y.getD t 0) from fun t ht => by
    rw [hL, ← HX.out, ← HP.out, List.getElem?_append_right (by rw [List.length_append]; omega), List.length_append, Nat.add_sub_cancel_left, List.getElem?_append_left ht, get_some ht])
  have V1 := Lib.hid (show Hp W (vals va vn vc (some ⟨gd, 0, none⟩) n c L :: l) w by rw [hL]; exact V0.out)
  clear hL V0
  go_enter Tryz.func79, Tryz.ntmps79
  by_cases hX1 : dm ≤ 1
  case neg => omega
  case pos =>
    have g0 : ((dm : Int) == 1) = true := beq_yes (by omega)
    have hXL : X.length = 1 := by have := HX.out; omega
    obtain ⟨xq, hxq, hxN⟩ := HNX.out 0 (by omega)
    have HXQ := Lib.hid hxq
    have HXA := Lib.hid (show L[a]? = some (xq : Int) by have h := HGX.out 0 (by omega); rw [Nat.add_zero, hxq] at h; exact h)
    have HXE := Lib.hid (show X = [(xq : Int)] by
      cases hX0 : X with
      | nil => rw [hX0] at hXL; cases hXL
      | cons x r =>
        rw [hX0] at hXL
        rw [hX0] at hxq
        have : r = [] := List.eq_nil_of_length_eq_zero (by simpa using hXL)
        rw [this, ← hxq]; rfl)
    clear hxq
    go_wp2_with fail
    go_loopw [10, 11] (fun iv jv wr => ∃ p q : Nat, iv = .int .i64 ((m + p : Nat) : Int) ∧ jv = .int .i64 ((m + q : Nat) : Int) ∧ p ≤ q ∧ q ≤ Y.length ∧ (∀ t, t < p → key (Y.getD t 0) < key (xq : Int)) ∧ (∀ t, q ≤ t → t < Y.length → key (xq : Int) ≤ key (Y.getD t 0)) ∧ Hp W (vals va vn vc (some ⟨gd, 0, none⟩) n c L :: l) wr) (fun iv jv _ => (intOf jv).toNat - (intOf iv).toNat)
    case atStart => exact ⟨0, Y.length, rfl, by rw [HY.out], Nat.zero_le _, Nat.le_refl _, fun t h => by omega, fun t h1 h2 => by omega, V1.out⟩
    case round =>
      clear V1 h0
      obtain ⟨p, q, rfl, rfl, hpq, hqY, hi1, hi2, hV⟩ := hrel
      obtain ⟨wi, rfl⟩ : ∃ wi : World, wi = wr := ⟨_, rfl⟩
      have V := Lib.hid hV
      have HI1 := Lib.hid hi1
      have HI2 := Lib.hid hi2
      clear hV hi1 hi2
      obtain ⟨lo, hlo⟩ : ∃ lo, lo = m + p := ⟨_, rfl⟩
      obtain ⟨hi, hhi⟩ : ∃ hi, hi = m + q := ⟨_, rfl⟩
      rw [← hlo, ← hhi]
      have hlo1 : lo ≤ m + p := by omega
      have hlo2 : m + p ≤ lo := by omega
      have hhi1 : hi ≤ m + q := by omega
      have hhi2 : m + q ≤ hi := by omega
      have hin : hi ≤ n := by have := HY.out; omega
      clear hlo hhi
      by_cases hlh : lo < hi
      case neg =>
        have hpq2 : q ≤ p := by omega
        obtain ⟨e, he⟩ : ∃ e, e = a + p := ⟨_, rfl⟩
        have g1 : IntKind.i64.wrap ((lo : Int) - 1) = (e : Int) := by rw [IntWalk.i64_in _ (by omega)]; omega
        have he1 : a + p ≤ e := by omega
        have he2 : e ≤ a + p := by omega
        clear he
        have VM := Lib.hid (show Hp W (vals va vn vc (some ⟨gd, 0, none⟩) n c (mvR P (xq : Int) (Y ++ S) 0) :: l) wi by
          have h := V.out
          rw [HLQ.out, HXE.out] at h
          rw [mvR_zero]
          rw [show P ++ [(xq : Int)] ++ (Y ++ S) = P ++ (xq : Int) :: (Y ++ S) by simp] at h
          exact h)
        clear V
        have HYS := Lib.hid (show P.length + (Y ++ S).length + 1 = n by rw [List.length_append]; have := HP.out; have := HY.out; have := HS.out; have := HX.out; omega)
        go_wp2_with fail
        go_loopw [13] (fun cv wr => ∃ r : Nat, cv = .int .i64 ((a + r : Nat) : Int) ∧ r ≤ p ∧ Hp W (vals va vn vc (some ⟨gd, 0, none⟩) n c (mvR P (xq : Int) (Y ++ S) r) :: l) wr) (fun cv _ => e - (intOf cv).toNat)
        case atStart => exact ⟨0, rfl, Nat.zero_le _, VM.out⟩
        case round =>
          clear VM
          obtain ⟨r, rfl, hrp, hV⟩ := hrel
          obtain ⟨wj, rfl⟩ : ∃ wj : World, wj = wr := ⟨_, rfl⟩
          have V := Lib.hid hV
          clear hV
          obtain ⟨k, hk⟩ : ∃ k, k = a + r := ⟨_, rfl⟩
          rw [← hk]
          have hk1 : k ≤ a + r := by omega
          have hk2 : a + r ≤ k := by omega
          clear hk
          by_cases hke : k < e
          case neg =>
            go_wp2_with fail
            exact bodyPost_ret (results_none rfl _ _ _) rfl ⟨rfl, Y.take p ++ (xq : Int) :: Y.drop p, by
              have h := mrg_one (key := key) (x := (xq : Int)) (k := p) HSY.out (fun y hy => HLT.out _ (by rw [HXE.out]; exact List.mem_cons_self ..) y hy) (by omega) HI1.out (fun i h1 h2 => by have := HI2.out i (by omega) h2; omega)
              rw [← HXE.out] at h
              exact h, by
              have h := V.out
              rw [show r = p by omega, mvR_in (by omega)] at h
              exact h⟩
          obtain ⟨k1, hk1'⟩ : ∃ k1, k1 = k + 1 := ⟨_, rfl⟩
          have g2 : IntKind.i64.wrap ((k : Int) + 1) = (k1 : Int) := by rw [IntWalk.i64_in _ (by omega)]; omega
          have hkk1 : k + 1 ≤ k1 := by omega
          have hkk2 : k1 ≤ k + 1 := by omega
          clear hk1'
          have hrY : r < (Y ++ S).length := by rw [List.length_append]; omega
          obtain ⟨y, hy⟩ : ∃ y, y = (Y ++ S).getD r 0 := ⟨_, rfl⟩
          obtain ⟨M, hM⟩ : ∃ M, M = mvR P (xq : Int) (Y ++ S) r := ⟨_, rfl⟩
          have HXI := Lib.hid (show M[k]? = some (xq : Int) by rw [hM, show k = P.length + r by rw [HP.out]; omega]; exact mvR_at (by omega))
          have HYJ := Lib.hid (show M[k1]? = some y by rw [hM, hy, show k1 = P.length + r + 1 by rw [HP.out]; omega]; exact mvR_post hrY)
          have HSW := Lib.hid (show swp M k k1 = mvR P (xq : Int) (Y ++ S) (r + 1) by
            rw [hM, show k1 = P.length + r + 1 by rw [HP.out]; omega, show k = P.length + r by rw [HP.out]; omega]
            exact mvR_step hrY)
          have HLL := Lib.hid (show M.length = n by rw [hM, mvR_len]; exact HYS.out)
          have hkn : k < n := by omega
          have hk1n : k1 < n := by have := HYS.out; have := HP.out; omega
          rw [← hM] at V
          clear hy hM
          go_upto_region 11 with fail
          have hKp : Keep [] wj := fun _ h => by simp at h
          refine wp_region_held_drew (S := Keep _) (by kernel_rfl) hKp.drew (fun hHeld => ?_)
          have Vd := Lib.hid (V.out.go (bdrew _))
          refine tk 0 ?_ rfl ?_ ?_; rotate_left; focus (intro w hSw; clear hSw; go_simp; try (with_reducible rfl))
          try simp only [Act.put, sA, sZ, sS]
          refine tk 1 ?_ rfl ?_ ?_; rotate_left; focus (intro w hSw; clear hSw; go_simp; try (with_reducible rfl))
          try simp only [Act.put, sA, sZ, sS]
          refine tk 2 ?_ rfl ?_ ?_; rotate_left; focus (intro w hSw; clear hSw; go_simp; try (with_reducible rfl))
          try simp only [Act.put, sA, sZ, sS]
          refine tk 3 ?_ rfl ?_ ?_; rotate_left; focus (intro w hSw; clear hSw; go_simp; try (with_reducible rfl))
          try simp only [Act.put, sA, sZ, sS]
          refine tk 4 ?_ rfl ?_ ?_; rotate_left; focus (intro w hSw; clear hSw; go_simp; try (with_reducible rfl))
          try simp only [Act.put, sA, sZ, sS]
          refine tk 5 ?_ rfl ?_ ?_; rotate_left; focus (intro w hSw; clear hSw; go_simp; try (with_reducible rfl))
          try simp only [Act.put, sA, sZ, sS]
          refine tk 6 ?_ rfl ?_ ?_; rotate_left; focus (intro w hSw; clear hSw; go_simp; try (with_reducible rfl))
          try simp only [Act.put, sA, sZ, sS]
          refine tk 7 ?_ rfl ?_ ?_; rotate_left; focus (intro w hSw; clear hSw; go_simp; try (with_reducible rfl))
          try simp only [Act.put, sA, sZ, sS]
          refine tk 8 ?_ rfl ?_ ?_; rotate_left; focus (intro w hSw; clear hSw; go_simp; try (with_reducible rfl))
          try simp only [Act.put, sA, sZ, sS]
          refine tk 10 ?_ rfl ?_ ?_; rotate_left; focus (intro w hSw; clear hSw; go_simp; try (with_reducible rfl))
          try simp only [Act.put, sA, sZ, sS]
          refine tk 11 ?_ rfl ?_ ?_; rotate_left; focus (intro w hSw; clear hSw; go_simp; try (with_reducible rfl))
          try simp only [Act.put, sA, sZ, sS]
          refine tk 12 ?_ rfl ?_ ?_; rotate_left; focus (intro w hSw; clear hSw; go_simp; try (with_reducible rfl))
          try simp only [Act.put, sA, sZ, sS]
          refine wpAnyH_ready (rs := [9, 13]) (by kernel_rfl) (by simp) ?_
          refine AllReadyH.cons (List.getElem?_toArray.trans rfl) (fun K hK => ?_) ?_
          · have yL := (Vd.out.val_get (i := 0) rfl HYJ.out).1
            go_simp
            refine hK.out _ _ (hHeld) (fun hHeld => ?_)
            clear hK K
            try simp only [Act.put, sA, sZ, sS]
            refine wpAnyH_ready (rs := [13]) (by kernel_rfl) (by simp) ?_
            refine AllReadyH.cons (List.getElem?_toArray.trans rfl) (fun K hK => ?_) AllReadyH.nil
            have yL := (Vd.out.val_get (i := 0) rfl HXI.out).1
            go_simp
            refine hK.out _ _ (hHeld) (fun hHeld => ?_)
            clear hK K
            try simp only [Act.put, sA, sZ, sS]
            refine tk 14 ?_ rfl ?_ ?_; rotate_left; focus (intro w hSw; clear hSw; go_simp; try (with_reducible rfl))
            try simp only [Act.put, sA, sZ, sS]
            refine wpAnyH_ready (rs := [15]) (by kernel_rfl) (by simp) ?_
            refine AllReadyH.cons (List.getElem?_toArray.trans rfl) (fun K hK => ?_) AllReadyH.nil
            obtain ⟨t0, u0, v0⟩ := Vd.out.val_get (i := 0) rfl HXI.out
            have VS1 := Lib.hid (show Hp _ (_ :: _) ((wj.setCell ⟨gd, k, none⟩ (.slice (va (y)) (vn (y)) (vc (y)))).drew) from Vd.out.val_set (i := 0) rfl (k) (y))
            go_simp
            refine hK.out _ _ (fun _ h => by simp at h) (fun hHeld => ?_)
            clear hK K
            try simp only [Act.put, sA, sZ, sS]
            refine tk 16 ?_ rfl ?_ ?_; rotate_left; focus (intro w hSw; clear hSw; go_simp; try (with_reducible rfl))
            try simp only [Act.put, sA, sZ, sS]
            refine wpAnyH_ready (rs := [17]) (by kernel_rfl) (by simp) ?_
            refine AllReadyH.cons (List.getElem?_toArray.trans rfl) (fun K hK => ?_) AllReadyH.nil
            obtain ⟨t0, u0, v0⟩ := VS1.out.val_at (i := 0) rfl (j := k1) (by rw [List.length_set, HLL.out]; omega)
            have VS2 := VS1.out.val_set (i := 0) rfl (k1) (xq : Int)
            rw [swp_eq HXI.out HYJ.out] at VS2
            have VS2 := Lib.hid VS2
            go_simp
            refine hK.out _ _ (fun _ h => by simp at h) (fun hHeld => ?_)
            clear hK K
            try simp only [Act.put, sA, sZ, sS]
            refine wpAnyH_done (by kernel_rfl) ?_ _
            clear hHeld
            have VN := Lib.hid (show Hp W (vals va vn vc (some ⟨gd, 0, none⟩) n c (mvR P (xq : Int) (Y ++ S) (r + 1)) :: l) _ by rw [← HSW.out]; exact VS2.out)
            clear VS1 VS2
            go_wp2_with fail
            go_roundw
            case rel => exact ⟨r + 1, by first | go_num | exact congrArg (Value.int .i64) (by omega), by omega, VN.out⟩
            case measure => simp [intOf]; omega
          refine AllReadyH.cons (List.getElem?_toArray.trans rfl) (fun K hK => ?_) ?_
          · have yL := (Vd.out.val_get (i := 0) rfl HXI.out).1
            go_simp
            refine hK.out _ _ (hHeld) (fun hHeld => ?_)
            clear hK K
            try simp only [Act.put, sA, sZ, sS]
            refine wpAnyH_ready (rs := [9]) (by kernel_rfl) (by simp) ?_
            refine AllReadyH.cons (List.getElem?_toArray.trans rfl) (fun K hK => ?_) AllReadyH.nil
            have yL := (Vd.out.val_get (i := 0) rfl HYJ.out).1
            go_simp
            refine hK.out _ _ (hHeld) (fun hHeld => ?_)
            clear hK K
            try simp only [Act.put, sA, sZ, sS]
            refine tk 14 ?_ rfl ?_ ?_; rotate_left; focus (intro w hSw; clear hSw; go_simp; try (with_reducible rfl))
            try simp only [Act.put, sA, sZ, sS]
            refine wpAnyH_ready (rs := [15]) (by kernel_rfl) (by simp) ?_
            refine AllReadyH.cons (List.getElem?_toArray.trans rfl) (fun K hK => ?_) AllReadyH.nil
            obtain ⟨t0, u0, v0⟩ := Vd.out.val_get (i := 0) rfl HXI.out
            have VS1 := Lib.hid (show Hp _ (_ :: _) ((wj.setCell ⟨gd, k, none⟩ (.slice (va (y)) (vn (y)) (vc (y)))).drew) from Vd.out.val_set (i := 0) rfl (k) (y))
            go_simp
            refine hK.out _ _ (fun _ h => by simp at h) (fun hHeld => ?_)
            clear hK K
            try simp only [Act.put, sA, sZ, sS]
            refine tk 16 ?_ rfl ?_ ?_; rotate_left; focus (intro w hSw; clear hSw; go_simp; try (with_reducible rfl))
            try simp only [Act.put, sA, sZ, sS]
            refine wpAnyH_ready (rs := [17]) (by kernel_rfl) (by simp) ?_
            refine AllReadyH.cons (List.getElem?_toArray.trans rfl) (fun K hK => ?_) AllReadyH.nil
            obtain ⟨t0, u0, v0⟩ := VS1.out.val_at (i := 0) rfl (j := k1) (by rw [List.length_set, HLL.out]; omega)
            have VS2 := VS1.out.val_set (i := 0) rfl (k1) (xq : Int)
            rw [swp_eq HXI.out HYJ.out] at VS2
            have VS2 := Lib.hid VS2
            go_simp
            refine hK.out _ _ (fun _ h => by simp at h) (fun hHeld => ?_)
            clear hK K
            try simp only [Act.put, sA, sZ, sS]
            refine wpAnyH_done (by kernel_rfl) ?_ _
            clear hHeld
            have VN := Lib.hid (show Hp W (vals va vn vc (some ⟨gd, 0, none⟩) n c (mvR P (xq : Int) (Y ++ S) (r + 1)) :: l) _ by rw [← HSW.out]; exact VS2.out)
            clear VS1 VS2
            go_wp2_with fail
            go_roundw
            case rel => exact ⟨r + 1, by first | go_num | exact congrArg (Value.int .i64) (by omega), by omega, VN.out⟩
            case measure => simp [intOf]; omega
          exact AllReadyH.nil
      obtain ⟨sm, hsm⟩ : ∃ z0, z0 = lo + hi := ⟨_, rfl⟩
      obtain ⟨h, hh⟩ : ∃ z0, z0 = sm / 2 := ⟨_, rfl⟩
      have m1 : IntKind.i64.wrap (((lo : Nat) : Int) + ((hi : Nat) : Int)) = (sm : Int) := by rw [IntWalk.i64_in _ (by omega)]; omega
      have m2 : IntKind.u64.wrap (sm : Int) = (sm : Int) := IntWalk.u64_in _ (by omega)
      have m3 : IntKind.i64.wrap (h : Int) = (h : Int) := IntWalk.i64_in _ (by omega)
      have m4 : (sm : Int) / 2 = (h : Int) := by omega
      have m5 : IntKind.u64.wrap (h : Int) = (h : Int) := IntWalk.u64_in _ (by omega)
      have hh1 : 2 * h ≤ lo + hi := by omega
      have hh2 : lo + hi ≤ 2 * h + 1 := by omega
      clear hsm hh
      obtain ⟨u, hu⟩ : ∃ u, u = h - m := ⟨_, rfl⟩
      have hu1 : m + u ≤ h := by omega
      have hu2 : h ≤ m + u := by omega
      have huY : u < Y.length := by omega
      have hhn : h < n := by omega
      have han : a < n := by omega
      clear hu
      obtain ⟨yq, hyq, hyN⟩ := HNY.out u huY
      have HYQ := Lib.hid hyq
      have HYH := Lib.hid (show L[h]? = some (yq : Int) by have h1 := HGY.out u huY; rw [hyq, show m + u = h by omega] at h1; exact h1)
      have hw9 : IntKind.i64.wrap ((h : Int) + 1) = ((h + 1 : Nat) : Int) := by rw [IntWalk.i64_in _ (by omega)]; omega
      clear hyq
      obtain ⟨c0, _, cb⟩ := V.out.val_get (i := 0) rfl HYH.out
      obtain ⟨c1, _, _⟩ := V.out.val_get (i := 0) rfl HXA.out
      go_upto_region 5 with fail
      have hKp : Keep [(⟨gd, h, none⟩, .slice (va (yq : Int)) (vn (yq : Int)) (vc (yq : Int))), (⟨gd, a, none⟩, .slice (va (xq : Int)) (vn (xq : Int)) (vc (xq : Int)))] wi := List.forall_mem_cons.2 ⟨⟨c0, cb⟩, List.forall_mem_cons.2 ⟨⟨c1, cb⟩, fun _ h => by simp at h⟩⟩
      refine wp_region_held_drew (S := Keep _) (by kernel_rfl) hKp.drew (fun hHeld => ?_)
      have Vd := Lib.hid (V.out.go (bdrew _))
      refine tk 0 ?_ rfl ?_ ?_; rotate_left; focus (intro w hSw; clear hSw; go_simp; try (with_reducible rfl))
      try simp only [Act.put, sA, sZ, sS]
      refine tk 1 ?_ rfl ?_ ?_; rotate_left; focus (intro w hSw; clear hSw; go_simp; try (with_reducible rfl))
      try simp only [Act.put, sA, sZ, sS]
      refine tk 2 ?_ rfl ?_ ?_; rotate_left; focus (intro w hSw; clear hSw; go_simp; try (with_reducible rfl))
      try simp only [Act.put, sA, sZ, sS]
      refine tk 3 ?_ rfl ?_ ?_; rotate_left; focus (intro w hSw; clear hSw; go_simp; try (with_reducible rfl))
      try simp only [Act.put, sA, sZ, sS]
      refine tk 4 ?_ rfl ?_ ?_; rotate_left
      · intro wl hSw
        have hSw : Keep _ wl := hSw
        have k0 : wl.cell? ⟨gd, h, none⟩ = some (.slice (va (yq : Int)) (vn (yq : Int)) (vc (yq : Int))) := (hSw _ (.head _)).1
        clear hSw
        go_simp
        try (with_reducible rfl)
      try simp only [Act.put, sA, sZ, sS]
      refine tk 5 ?_ rfl ?_ ?_; rotate_left; focus (intro w hSw; clear hSw; go_simp; try (with_reducible rfl))
      try simp only [Act.put, sA, sZ, sS]
      refine tk 6 ?_ rfl ?_ ?_; rotate_left; focus (intro w hSw; clear hSw; go_simp; try (with_reducible rfl))
      try simp only [Act.put, sA, sZ, sS]
      refine tk 7 ?_ rfl ?_ ?_; rotate_left; focus (intro w hSw; clear hSw; go_simp; try (with_reducible rfl))
      try simp only [Act.put, sA, sZ, sS]
      refine tk 8 ?_ rfl ?_ ?_; rotate_left
      · intro wl hSw
        have hSw : Keep _ wl := hSw
        have k0 : wl.cell? ⟨gd, a, none⟩ = some (.slice (va (xq : Int)) (vn (xq : Int)) (vc (xq : Int))) := (hSw _ (.tail _ (.head _))).1
        clear hSw
        go_simp
        try (with_reducible rfl)
      try simp only [Act.put, sA, sZ, sS]
      refine wpAnyH_ready (rs := [9]) (by kernel_rfl) (by simp) ?_
      refine AllReadyH.cons (List.getElem?_toArray.trans rfl) (fun K hK => ?_) AllReadyH.nil
      go_simp
      refine (HCC.out _ _ Vd.out yq xq (by omega) (by omega)).mono ?_
      rintro e w4 ⟨z, rfl, hz, b4⟩
      try go_wp2_with fail
      have HZZ := Lib.hid hz
      have VC := Lib.hid (Vd.out.go b4)
      clear hz
      refine hK.out _ _ (hHeld.go b4) (fun hHeld => ?_)
      clear hK K
      try simp only [Act.put, sA, sZ, sS]
      refine tk 10 ?_ rfl ?_ ?_; rotate_left; focus (intro w hSw; clear hSw; go_simp; try (with_reducible rfl))
      try simp only [Act.put, sA, sZ, sS]
      refine wpAnyH_done (by kernel_rfl) ?_ _
      clear hKp hHeld c0 c1 cb m1 m2 m3 m4 m5
      have VN := Lib.hid (show Hp W (vals va vn vc (some ⟨gd, 0, none⟩) n c L :: l) w4 from VC.out)
      by_cases hz : z < 0
      case pos =>
        have HN1 := Lib.hid (show ∀ t, t < u + 1 → key (Y.getD t 0) < key (xq : Int) from fun t ht => by
          have h1 := pw_le HSY.out (show t ≤ u by omega) huY
          have h2 := HZZ.out.1 hz
          rw [HYQ.out] at h1
          omega)
        clear VC V
        go_wp2_with fail
        go_roundw
        case rel => exact ⟨u + 1, q, by first | go_num | exact congrArg (Value.int .i64) (by omega), by first | go_num | exact congrArg (Value.int .i64) (by omega), by omega, hqY, HN1.out, HI2.out, VN.out⟩
        case measure => simp [intOf]; omega
      case neg =>
        have HN2 := Lib.hid (show ∀ t, u ≤ t → t < Y.length → key (xq : Int) ≤ key (Y.getD t 0) from fun t h1 h2 => by
          have h3 := pw_le HSY.out h1 h2
          have h4 : ¬ key (yq : Int) < key (xq : Int) := fun h => hz (HZZ.out.2 h)
          rw [HYQ.out] at h3
          omega)
        clear VC V
        go_wp2_with fail
        go_roundw
        case rel => exact ⟨p, u, by first | go_num | exact congrArg (Value.int .i64) (by omega), by first | go_num | exact congrArg (Value.int .i64) (by omega), by omega, by omega, HI1.out, HN2.out, VN.out⟩
        case measure => simp [intOf]; omega
set_option maxHeartbeats 128000000 in
theorem symRight_any {W : World} {l : List Itm} {va : Int → Option Addr} {vn vc : Int → Nat} (key : Int → Int) (N gb gd n c : Nat) (HC : CmpOk va vn vc key N gb gd n c W l) (hbig : n ≤ 1000000) (d : Nat) (P X Y S : List Int) (a m b : Nat) (w : World) (hd : b - a ≤ d + 1) (hP : P.length = a) (hX : a + X.length = m) (hY : m + Y.length = b) (hS : b + S.length = n) (ham : a < m) (hmb : m < b)
    (hsX : X.Pairwise (RL key)) (hsY : Y.Pairwise (RL key)) (hlt : ∀ x ∈ X, ∀ y ∈ Y, x < y) (hNX : ∀ x ∈ X, 0 ≤ x ∧ x < (N : Int)) (hNY : ∀ y ∈ Y, 0 ≤ y ∧ y < (N : Int)) (hV : Hp W (vals va vn vc (some ⟨gd, 0, none⟩) n c (P ++ X ++ (Y ++ S)) :: l) w) (h2X : 2 ≤ X.length) (h1Y : Y.length = 1) :
    Calls Tryz.prog 79 #[.slice (some ⟨gd, 0, none⟩) n c, .int .i64 (a : Int), .int .i64 (m : Int), .int .i64 (b : Int), FVal gb] w fun e w' => e = .returned (.tuple #[]) ∧ ∃ Z, Mrg key X Y Z ∧ Hp W (vals va vn vc (some ⟨gd, 0, none⟩) n c (P ++ Z ++ S) :: l) w' := by
  have V0 := Lib.hid hV
  have HCC := Lib.hid HC
  have HP := Lib.hid hP
  have HX := Lib.hid hX
  have HY := Lib.hid hY
  have HS := Lib.hid hS
  have HSX := Lib.hid hsX
  have HSY := Lib.hid hsY
  have HLT := Lib.hid hlt
  have HNX := Lib.hid (show ∀ t, t < X.length → ∃ q : Nat, X.getD t 0 = (q : Int) ∧ q < N from fun t ht => as_nat (hNX _ (getD_mem ht)))
  have HNY := Lib.hid (show ∀ t, t < Y.length → ∃ q : Nat, Y.getD t 0 = (q : Int) ∧ q < N from fun t ht => as_nat (hNY _ (getD_mem ht)))
  have HNX0 := Lib.hid hNX
  have HNY0 := Lib.hid hNY
  have hbn : b ≤ n := by omega
  have hXl1 : a + X.length ≤ m := by omega
  have hXl2 : m ≤ a + X.length := by omega
  have hYl1 : m + Y.length ≤ b := by omega
  have hYl2 : b ≤ m + Y.length := by omega
  clear hV hP hX hY hS hsX hsY hlt hNX hNY HC
  obtain ⟨dm, hdm⟩ : ∃ dm, dm = m - a := ⟨_, rfl⟩
  have h0 : IntKind.i64.wrap ((m : Int) - (a : Int)) = (dm : Int) := by rw [IntWalk.i64_in _ (by omega)]; omega
  have hdm1 : dm ≤ m - a := by omega
  have hdm2 : m - a ≤ dm := by omega
  clear hdm
  obtain ⟨L, hL⟩ : ∃ L, L = P ++ X ++ (Y ++ S) := ⟨_, rfl⟩
  have HLQ := Lib.hid hL
  have HGX := Lib.hid (show ∀ t, t < X.length → L[a + t]? = some (X.getD t 0) from fun t ht => by
    rw [hL, ← HP.out, List.append_assoc, List.getElem?_append_right (by omega), Nat.add_sub_cancel_left, List.getElem?_append_left ht, get_some ht])
  have HGY := Lib.hid (show ∀ t, t < Y.length → L[m + t]? = some (Y.getD t 0) from fun t ht => by
    rw [hL, ← HX.out, ← HP.out, List.getElem?_append_right (by rw [List.length_append]; omega), List.length_append, Nat.add_sub_cancel_left, List.getElem?_append_left ht, get_some ht])
  have V1 := Lib.hid (show Hp W (vals va vn vc (some ⟨gd, 0, none⟩) n c L :: l) w by rw [hL]; exact V0.out)
  clear hL V0
  go_enter Tryz.func79, Tryz.ntmps79
  have g0 : ((dm : Int) == 1) = false := beq_no (by omega)
  obtain ⟨db, hdb⟩ : ∃ db, db = b - m := ⟨_, rfl⟩
  have h1 : IntKind.i64.wrap ((b : Int) - (m : Int)) = (db : Int) := by rw [IntWalk.i64_in _ (by omega)]; omega
  have hdb1 : db ≤ b - m := by omega
  have hdb2 : b - m ≤ db := by omega
  clear hdb
  by_cases hY1 : db ≤ 1
  case neg => omega
  case pos =>
    have g1 : ((db : Int) == 1) = true := beq_yes (by omega)
    have hYL : Y.length = 1 := by have := HY.out; omega
    obtain ⟨yq, hyq, hyN⟩ := HNY.out 0 (by omega)
    have HYA := Lib.hid (show L[m]? = some (yq : Int) by have h := HGY.out 0 (by omega); rw [Nat.add_zero, hyq] at h; exact h)
    have HYE := Lib.hid (show Y = [(yq : Int)] by
      cases hY0 : Y with
      | nil => rw [hY0] at hYL; cases hYL
      | cons x r =>
        rw [hY0] at hYL
        rw [hY0] at hyq
        have : r = [] := List.eq_nil_of_length_eq_zero (by simpa using hYL)
        rw [this, ← hyq]; rfl)
    clear hyq
    go_wp2_with fail
    go_loopw [14, 15] (fun iv jv wr => ∃ p q : Nat, iv = .int .i64 ((a + p : Nat) : Int) ∧ jv = .int .i64 ((a + q : Nat) : Int) ∧ p ≤ q ∧ q ≤ X.length ∧ (∀ t, t < p → key (X.getD t 0) ≤ key (yq : Int)) ∧ (∀ t, q ≤ t → t < X.length → key (yq : Int) < key (X.getD t 0)) ∧ Hp W (vals va vn vc (some ⟨gd, 0, none⟩) n c L :: l) wr) (fun iv jv _ => (intOf jv).toNat - (intOf iv).toNat)
    case atStart => exact ⟨0, X.length, rfl, by rw [HX.out], Nat.zero_le _, Nat.le_refl _, fun t h => by omega, fun t h1 h2 => by omega, V1.out⟩
    case round =>
      clear V1 h0 h1
      obtain ⟨p, q, rfl, rfl, hpq, hqX, hi1, hi2, hV⟩ := hrel
      obtain ⟨wi, rfl⟩ : ∃ wi : World, wi = wr := ⟨_, rfl⟩
      have V := Lib.hid hV
      have HI1 := Lib.hid hi1
      have HI2 := Lib.hid hi2
      clear hV hi1 hi2
      obtain ⟨lo, hlo⟩ : ∃ lo, lo = a + p := ⟨_, rfl⟩
      obtain ⟨hi, hhi⟩ : ∃ hi, hi = a + q := ⟨_, rfl⟩
      rw [← hlo, ← hhi]
      have hlo1 : lo ≤ a + p := by omega
      have hlo2 : a + p ≤ lo := by omega
      have hhi1 : hi ≤ a + q := by omega
      have hhi2 : a + q ≤ hi := by omega
      have hin : hi ≤ n := by have := HX.out; omega
      clear hlo hhi
      by_cases hlh : lo < hi
      case neg =>
        have hpq2 : q ≤ p := by omega
        have VM := Lib.hid (show Hp W (vals va vn vc (some ⟨gd, 0, none⟩) n c (mvR P (yq : Int) (X ++ S) X.length) :: l) wi by
          have h := V.out
          rw [HLQ.out, HYE.out] at h
          rw [mvR_all]
          rw [show P ++ X ++ ([(yq : Int)] ++ S) = P ++ X ++ (yq : Int) :: S by simp] at h
          exact h)
        clear V
        have HYS := Lib.hid (show P.length + (X ++ S).length + 1 = n by rw [List.length_append]; have := HP.out; have := HY.out; have := HS.out; have := HX.out; omega)
        go_wp2_with fail
        go_loopw [17] (fun cv wr => ∃ r : Nat, cv = .int .i64 ((a + r : Nat) : Int) ∧ p ≤ r ∧ r ≤ X.length ∧ Hp W (vals va vn vc (some ⟨gd, 0, none⟩) n c (mvR P (yq : Int) (X ++ S) r) :: l) wr) (fun cv _ => (intOf cv).toNat)
        case atStart => exact ⟨X.length, by rw [HX.out], by omega, Nat.le_refl _, VM.out⟩
        case round =>
          clear VM
          obtain ⟨r, rfl, hrp, hrX, hV⟩ := hrel
          obtain ⟨wj, rfl⟩ : ∃ wj : World, wj = wr := ⟨_, rfl⟩
          have V := Lib.hid hV
          clear hV
          obtain ⟨k, hk⟩ : ∃ k, k = a + r := ⟨_, rfl⟩
          rw [← hk]
          have hk1 : k ≤ a + r := by omega
          have hk2 : a + r ≤ k := by omega
          clear hk
          by_cases hke : lo < k
          case neg =>
            go_wp2_with fail
            exact bodyPost_ret (results_none rfl _ _ _) rfl ⟨rfl, X.take p ++ (yq : Int) :: X.drop p, by
              have h := mrg_last (key := key) (y := (yq : Int)) (k := p) HSX.out (fun x hx => HLT.out x hx _ (by rw [HYE.out]; exact List.mem_cons_self ..)) (by omega) (fun i h1 => by have := HI1.out i h1; omega) (fun i h1 h2 => HI2.out i (by omega) h2)
              rw [← HYE.out] at h
              exact h, by
              have h := V.out
              rw [show r = p by omega, mvR_in (by omega)] at h
              exact h⟩
          obtain ⟨r', hr'⟩ : ∃ r', r' = r - 1 := ⟨_, rfl⟩
          obtain rfl : r = r' + 1 := by omega
          clear hr'
          obtain ⟨k1, hk1'⟩ : ∃ k1, k1 = k - 1 := ⟨_, rfl⟩
          have g2 : IntKind.i64.wrap ((k : Int) - 1) = (k1 : Int) := by rw [IntWalk.i64_in _ (by omega)]; omega
          have hkk1 : k1 + 1 ≤ k := by omega
          have hkk2 : k ≤ k1 + 1 := by omega
          clear hk1'
          have hrY : r' < (X ++ S).length := by rw [List.length_append]; omega
          obtain ⟨y, hy⟩ : ∃ y, y = (X ++ S).getD r' 0 := ⟨_, rfl⟩
          obtain ⟨M, hM⟩ : ∃ M, M = mvR P (yq : Int) (X ++ S) (r' + 1) := ⟨_, rfl⟩
          have HXI := Lib.hid (show M[k]? = some (yq : Int) by rw [hM, show k = P.length + (r' + 1) by rw [HP.out]; omega]; exact mvR_at (by omega))
          have HYJ := Lib.hid (show M[k1]? = some y by rw [hM, hy, show k1 = P.length + r' by rw [HP.out]; omega]; exact mvR_pre hrY)
          have HSW := Lib.hid (show swp M k k1 = mvR P (yq : Int) (X ++ S) r' by
            rw [hM, show k = P.length + r' + 1 by rw [HP.out]; omega, show k1 = P.length + r' by rw [HP.out]; omega]
            exact mvR_back hrY)
          have HLL := Lib.hid (show M.length = n by rw [hM, mvR_len]; exact HYS.out)
          have hkn : k < n := by have := HX.out; omega
          have hk1n : k1 < n := by omega
          rw [← hM] at V
          clear hy hM
          go_upto_region 23 with fail
          have hKp : Keep [] wj := fun _ h => by simp at h
          refine wp_region_held_drew (S := Keep _) (by kernel_rfl) hKp.drew (fun hHeld => ?_)
          have Vd := Lib.hid (V.out.go (bdrew _))
          refine tk 0 ?_ rfl ?_ ?_; rotate_left; focus (intro w hSw; clear hSw; go_simp; try (with_reducible rfl))
          try simp only [Act.put, sA, sZ, sS]
          refine tk 1 ?_ rfl ?_ ?_; rotate_left; focus (intro w hSw; clear hSw; go_simp; try (with_reducible rfl))
          try simp only [Act.put, sA, sZ, sS]
          refine tk 2 ?_ rfl ?_ ?_; rotate_left; focus (intro w hSw; clear hSw; go_simp; try (with_reducible rfl))
          try simp only [Act.put, sA, sZ, sS]
          refine tk 3 ?_ rfl ?_ ?_; rotate_left; focus (intro w hSw; clear hSw; go_simp; try (with_reducible rfl))
          try simp only [Act.put, sA, sZ, sS]
          refine tk 4 ?_ rfl ?_ ?_; rotate_left; focus (intro w hSw; clear hSw; go_simp; try (with_reducible rfl))
          try simp only [Act.put, sA, sZ, sS]
          refine tk 5 ?_ rfl ?_ ?_; rotate_left; focus (intro w hSw; clear hSw; go_simp; try (with_reducible rfl))
          try simp only [Act.put, sA, sZ, sS]
          refine tk 6 ?_ rfl ?_ ?_; rotate_left; focus (intro w hSw; clear hSw; go_simp; try (with_reducible rfl))
          try simp only [Act.put, sA, sZ, sS]
          refine tk 7 ?_ rfl ?_ ?_; rotate_left; focus (intro w hSw; clear hSw; go_simp; try (with_reducible rfl))
          try simp only [Act.put, sA, sZ, sS]
          refine tk 8 ?_ rfl ?_ ?_; rotate_left; focus (intro w hSw; clear hSw; go_simp; try (with_reducible rfl))
          try simp only [Act.put, sA, sZ, sS]
          refine tk 10 ?_ rfl ?_ ?_; rotate_left; focus (intro w hSw; clear hSw; go_simp; try (with_reducible rfl))
          try simp only [Act.put, sA, sZ, sS]
          refine tk 11 ?_ rfl ?_ ?_; rotate_left; focus (intro w hSw; clear hSw; go_simp; try (with_reducible rfl))
          try simp only [Act.put, sA, sZ, sS]
          refine tk 12 ?_ rfl ?_ ?_; rotate_left; focus (intro w hSw; clear hSw; go_simp; try (with_reducible rfl))
          try simp only [Act.put, sA, sZ, sS]
          refine wpAnyH_ready (rs := [9, 13]) (by kernel_rfl) (by simp) ?_
          refine AllReadyH.cons (List.getElem?_toArray.trans rfl) (fun K hK => ?_) ?_
          · have yL := (Vd.out.val_get (i := 0) rfl HYJ.out).1
            go_simp
            refine hK.out _ _ (hHeld) (fun hHeld => ?_)
            clear hK K
            try simp only [Act.put, sA, sZ, sS]
            refine wpAnyH_ready (rs := [13]) (by kernel_rfl) (by simp) ?_
            refine AllReadyH.cons (List.getElem?_toArray.trans rfl) (fun K hK => ?_) AllReadyH.nil
            have yL := (Vd.out.val_get (i := 0) rfl HXI.out).1
            go_simp
            refine hK.out _ _ (hHeld) (fun hHeld => ?_)
            clear hK K
            try simp only [Act.put, sA, sZ, sS]
            refine tk 14 ?_ rfl ?_ ?_; rotate_left; focus (intro w hSw; clear hSw; go_simp; try (with_reducible rfl))
            try simp only [Act.put, sA, sZ, sS]
            refine wpAnyH_ready (rs := [15]) (by kernel_rfl) (by simp) ?_
            refine AllReadyH.cons (List.getElem?_toArray.trans rfl) (fun K hK => ?_) AllReadyH.nil
            obtain ⟨t0, u0, v0⟩ := Vd.out.val_get (i := 0) rfl HXI.out
            have VS1 := Lib.hid (show Hp _ (_ :: _) ((wj.setCell ⟨gd, k, none⟩ (.slice (va (y)) (vn (y)) (vc (y)))).drew) from Vd.out.val_set (i := 0) rfl (k) (y))
            go_simp
            refine hK.out _ _ (fun _ h => by simp at h) (fun hHeld => ?_)
            clear hK K
            try simp only [Act.put, sA, sZ, sS]
            refine tk 16 ?_ rfl ?_ ?_; rotate_left; focus (intro w hSw; clear hSw; go_simp; try (with_reducible rfl))
            try simp only [Act.put, sA, sZ, sS]
            refine wpAnyH_ready (rs := [17]) (by kernel_rfl) (by simp) ?_
            refine AllReadyH.cons (List.getElem?_toArray.trans rfl) (fun K hK => ?_) AllReadyH.nil
            obtain ⟨t0, u0, v0⟩ := VS1.out.val_at (i := 0) rfl (j := k1) (by rw [List.length_set, HLL.out]; omega)
            have VS2 := VS1.out.val_set (i := 0) rfl (k1) (yq : Int)
            rw [swp_eq HXI.out HYJ.out] at VS2
            have VS2 := Lib.hid VS2
            go_simp
            refine hK.out _ _ (fun _ h => by simp at h) (fun hHeld => ?_)
            clear hK K
            try simp only [Act.put, sA, sZ, sS]
            refine wpAnyH_done (by kernel_rfl) ?_ _
            clear hHeld
            have VN := Lib.hid (show Hp W (vals va vn vc (some ⟨gd, 0, none⟩) n c (mvR P (yq : Int) (X ++ S) r') :: l) _ by rw [← HSW.out]; exact VS2.out)
            clear VS1 VS2
            go_wp2_with fail
            go_roundw
            case rel => exact ⟨r', by first | go_num | exact congrArg (Value.int .i64) (by omega), by omega, by omega, VN.out⟩
            case measure => simp [intOf]; omega
          refine AllReadyH.cons (List.getElem?_toArray.trans rfl) (fun K hK => ?_) ?_
          · have yL := (Vd.out.val_get (i := 0) rfl HXI.out).1
            go_simp
            refine hK.out _ _ (hHeld) (fun hHeld => ?_)
            clear hK K
            try simp only [Act.put, sA, sZ, sS]
            refine wpAnyH_ready (rs := [9]) (by kernel_rfl) (by simp) ?_
            refine AllReadyH.cons (List.getElem?_toArray.trans rfl) (fun K hK => ?_) AllReadyH.nil
            have yL := (Vd.out.val_get (i := 0) rfl HYJ.out).1
            go_simp
            refine hK.out _ _ (hHeld) (fun hHeld => ?_)
            clear hK K
            try simp only [Act.put, sA, sZ, sS]
            refine tk 14 ?_ rfl ?_ ?_; rotate_left; focus (intro w hSw; clear hSw; go_simp; try (with_reducible rfl))
            try simp only [Act.put, sA, sZ, sS]
            refine wpAnyH_ready (rs := [15]) (by kernel_rfl) (by simp) ?_
            refine AllReadyH.cons (List.getElem?_toArray.trans rfl) (fun K hK => ?_) AllReadyH.nil
            obtain ⟨t0, u0, v0⟩ := Vd.out.val_get (i := 0) rfl HXI.out
            have VS1 := Lib.hid (show Hp _ (_ :: _) ((wj.setCell ⟨gd, k, none⟩ (.slice (va (y)) (vn (y)) (vc (y)))).drew) from Vd.out.val_set (i := 0) rfl (k) (y))
            go_simp
            refine hK.out _ _ (fun _ h => by simp at h) (fun hHeld => ?_)
            clear hK K
            try simp only [Act.put, sA, sZ, sS]
            refine tk 16 ?_ rfl ?_ ?_; rotate_left; focus (intro w hSw; clear hSw; go_simp; try (with_reducible rfl))
            try simp only [Act.put, sA, sZ, sS]
            refine wpAnyH_ready (rs := [17]) (by kernel_rfl) (by simp) ?_
            refine AllReadyH.cons (List.getElem?_toArray.trans rfl) (fun K hK => ?_) AllReadyH.nil
            obtain ⟨t0, u0, v0⟩ := VS1.out.val_at (i := 0) rfl (j := k1) (by rw [List.length_set, HLL.out]; omega)
            have VS2 := VS1.out.val_set (i := 0) rfl (k1) (yq : Int)
            rw [swp_eq HXI.out HYJ.out] at VS2
            have VS2 := Lib.hid VS2
            go_simp
            refine hK.out _ _ (fun _ h => by simp at h) (fun hHeld => ?_)
            clear hK K
            try simp only [Act.put, sA, sZ, sS]
            refine wpAnyH_done (by kernel_rfl) ?_ _
            clear hHeld
            have VN := Lib.hid (show Hp W (vals va vn vc (some ⟨gd, 0, none⟩) n c (mvR P (yq : Int) (X ++ S) r') :: l) _ by rw [← HSW.out]; exact VS2.out)
            clear VS1 VS2
            go_wp2_with fail
            go_roundw
            case rel => exact ⟨r', by first | go_num | exact congrArg (Value.int .i64) (by omega), by omega, by omega, VN.out⟩
            case measure => simp [intOf]; omega
          exact AllReadyH.nil
      obtain ⟨sm, hsm⟩ : ∃ z0, z0 = lo + hi := ⟨_, rfl⟩
      obtain ⟨h, hh⟩ : ∃ z0, z0 = sm / 2 := ⟨_, rfl⟩
      have m1 : IntKind.i64.wrap (((lo : Nat) : Int) + ((hi : Nat) : Int)) = (sm : Int) := by rw [IntWalk.i64_in _ (by omega)]; omega
      have m2 : IntKind.u64.wrap (sm : Int) = (sm : Int) := IntWalk.u64_in _ (by omega)
      have m3 : IntKind.i64.wrap (h : Int) = (h : Int) := IntWalk.i64_in _ (by omega)
      have m4 : (sm : Int) / 2 = (h : Int) := by omega
      have m5 : IntKind.u64.wrap (h : Int) = (h : Int) := IntWalk.u64_in _ (by omega)
      have hh1 : 2 * h ≤ lo + hi := by omega
      have hh2 : lo + hi ≤ 2 * h + 1 := by omega
      clear hsm hh
      obtain ⟨u, hu⟩ : ∃ u, u = h - a := ⟨_, rfl⟩
      have hu1 : a + u ≤ h := by omega
      have hu2 : h ≤ a + u := by omega
      have huX : u < X.length := by omega
      have hhn : h < n := by omega
      have hmn : m < n := by omega
      clear hu
      obtain ⟨xq, hxq, hxN⟩ := HNX.out u huX
      have HXQ := Lib.hid hxq
      have HXH := Lib.hid (show L[h]? = some (xq : Int) by have h1 := HGX.out u huX; rw [hxq, show a + u = h by omega] at h1; exact h1)
      have hw9 : IntKind.i64.wrap ((h : Int) + 1) = ((h + 1 : Nat) : Int) := by rw [IntWalk.i64_in _ (by omega)]; omega
      clear hxq
      obtain ⟨c0, _, cb⟩ := V.out.val_get (i := 0) rfl HYA.out
      obtain ⟨c1, _, _⟩ := V.out.val_get (i := 0) rfl HXH.out
      go_upto_region 17 with fail
      have hKp : Keep [(⟨gd, m, none⟩, .slice (va (yq : Int)) (vn (yq : Int)) (vc (yq : Int))), (⟨gd, h, none⟩, .slice (va (xq : Int)) (vn (xq : Int)) (vc (xq : Int)))] wi := List.forall_mem_cons.2 ⟨⟨c0, cb⟩, List.forall_mem_cons.2 ⟨⟨c1, cb⟩, fun _ h => by simp at h⟩⟩
      refine wp_region_held_drew (S := Keep _) (by kernel_rfl) hKp.drew (fun hHeld => ?_)
      have Vd := Lib.hid (V.out.go (bdrew _))
      refine tk 0 ?_ rfl ?_ ?_; rotate_left; focus (intro w hSw; clear hSw; go_simp; try (with_reducible rfl))
      try simp only [Act.put, sA, sZ, sS]
      refine tk 1 ?_ rfl ?_ ?_; rotate_left; focus (intro w hSw; clear hSw; go_simp; try (with_reducible rfl))
      try simp only [Act.put, sA, sZ, sS]
      refine tk 2 ?_ rfl ?_ ?_; rotate_left; focus (intro w hSw; clear hSw; go_simp; try (with_reducible rfl))
      try simp only [Act.put, sA, sZ, sS]
      refine tk 3 ?_ rfl ?_ ?_; rotate_left; focus (intro w hSw; clear hSw; go_simp; try (with_reducible rfl))
      try simp only [Act.put, sA, sZ, sS]
      refine tk 4 ?_ rfl ?_ ?_; rotate_left
      · intro wl hSw
        have hSw : Keep _ wl := hSw
        have k0 : wl.cell? ⟨gd, m, none⟩ = some (.slice (va (yq : Int)) (vn (yq : Int)) (vc (yq : Int))) := (hSw _ (.head _)).1
        clear hSw
        go_simp
        try (with_reducible rfl)
      try simp only [Act.put, sA, sZ, sS]
      refine tk 5 ?_ rfl ?_ ?_; rotate_left; focus (intro w hSw; clear hSw; go_simp; try (with_reducible rfl))
      try simp only [Act.put, sA, sZ, sS]
      refine tk 6 ?_ rfl ?_ ?_; rotate_left; focus (intro w hSw; clear hSw; go_simp; try (with_reducible rfl))
      try simp only [Act.put, sA, sZ, sS]
      refine tk 7 ?_ rfl ?_ ?_; rotate_left; focus (intro w hSw; clear hSw; go_simp; try (with_reducible rfl))
      try simp only [Act.put, sA, sZ, sS]
      refine tk 8 ?_ rfl ?_ ?_; rotate_left
      · intro wl hSw
        have hSw : Keep _ wl := hSw
        have k0 : wl.cell? ⟨gd, h, none⟩ = some (.slice (va (xq : Int)) (vn (xq : Int)) (vc (xq : Int))) := (hSw _ (.tail _ (.head _))).1
        clear hSw
        go_simp
        try (with_reducible rfl)
      try simp only [Act.put, sA, sZ, sS]
      refine wpAnyH_ready (rs := [9]) (by kernel_rfl) (by simp) ?_
      refine AllReadyH.cons (List.getElem?_toArray.trans rfl) (fun K hK => ?_) AllReadyH.nil
      go_simp
      refine (HCC.out _ _ Vd.out yq xq (by omega) (by omega)).mono ?_
      rintro e w4 ⟨z, rfl, hz, b4⟩
      try go_wp2_with fail
      have HZZ := Lib.hid hz
      have VC := Lib.hid (Vd.out.go b4)
      clear hz
      refine hK.out _ _ (hHeld.go b4) (fun hHeld => ?_)
      clear hK K
      try simp only [Act.put, sA, sZ, sS]
      refine tk 10 ?_ rfl ?_ ?_; rotate_left; focus (intro w hSw; clear hSw; go_simp; try (with_reducible rfl))
      try simp only [Act.put, sA, sZ, sS]
      refine tk 11 ?_ rfl ?_ ?_; rotate_left; focus (intro w hSw; clear hSw; go_simp; try (with_reducible rfl))
      try simp only [Act.put, sA, sZ, sS]
      refine wpAnyH_done (by kernel_rfl) ?_ _
      clear hKp hHeld c0 c1 cb m1 m2 m3 m4 m5
      have VN := Lib.hid (show Hp W (vals va vn vc (some ⟨gd, 0, none⟩) n c L :: l) w4 from VC.out)
      by_cases hz : z < 0
      case pos =>
        rw [decide_eq_true hz, show (!true) = false from rfl]
        have HN2 := Lib.hid (show ∀ t, u ≤ t → t < X.length → key (yq : Int) < key (X.getD t 0) from fun t h1 h2 => by
          have h3 := pw_le HSX.out h1 h2
          have h4 := HZZ.out.1 hz
          rw [HXQ.out] at h3
          omega)
        clear VC V
        go_wp2_with fail
        go_roundw
        case rel => exact ⟨p, u, by first | go_num | exact congrArg (Value.int .i64) (by omega), by first | go_num | exact congrArg (Value.int .i64) (by omega), by omega, by omega, HI1.out, HN2.out, VN.out⟩
        case measure => simp [intOf]; omega
      case neg =>
        rw [decide_eq_false hz, show (!false) = true from rfl]
        have HN1 := Lib.hid (show ∀ t, t < u + 1 → key (X.getD t 0) ≤ key (yq : Int) from fun t ht => by
          have h1 := pw_le HSX.out (show t ≤ u by omega) huX
          have h4 : ¬ key (yq : Int) < key (xq : Int) := fun h => hz (HZZ.out.2 h)
          rw [HXQ.out] at h1
          omega)
        clear VC V
        go_wp2_with fail
        go_roundw
        case rel => exact ⟨u + 1, q, by first | go_num | exact congrArg (Value.int .i64) (by omega), by first | go_num | exact congrArg (Value.int .i64) (by omega), by omega, hqX, HN1.out, HI2.out, VN.out⟩
        case measure => simp [intOf]; omega
end Go.Proofs.YtjamfcihjendiaaGreat.St
