/- Several texts in one: Sg. -/
import Derived.Test.YtpifchlpakajjaaGreatRtbj
import Derived.Test.YtpifchlpakajjaaGreatRtbf
import Derived.Deep.RegionLaw
namespace Go.Proofs.YtpifchlpakajjaaGreat.St
open Go.RowKit
set_option linter.unusedVariables false
set_option linter.unusedSimpArgs false
set_option maxRecDepth 100000

set_option maxHeartbeats 64000000 in
theorem stable_any {W : World} {l : List Itm} {va : Int → Option Addr} {vn vc : Int → Nat} (key : Int → Int) (N gb gd n c : Nat) (HC : CmpOk va vn vc key N gb gd n c W l) (hbig : n ≤ 1000000) (L0 : List Int) (w : World) (hn : L0.length = n) (ha : L0.Pairwise (· < ·)) (hN : ∀ x ∈ L0, 0 ≤ x ∧ x < (N : Int)) (hV : Hp W (vals va vn vc (some ⟨gd, 0, none⟩) n c L0 :: l) w) :
    Calls Tryz.prog 97 #[.slice (some ⟨gd, 0, none⟩) n c, .int .i64 (n : Int), FVal gb] w fun e w' => e = .returned (.tuple #[]) ∧ ∃ Z, Z.Perm L0 ∧ Z.Pairwise (RL key) ∧ Hp W (vals va vn vc (some ⟨gd, 0, none⟩) n c Z :: l) w' := by
  have V0 := Lib.hid hV
  have HCC := Lib.hid HC
  have HN := Lib.hid hn
  have HA := Lib.hid ha
  have HNN := Lib.hid hN
  clear hV HC hn ha hN
  go_enter Tryz.func97, Tryz.ntmps97
  go_wp2_with fail
  go_loopw [7, 8] (fun av bv wr => ∃ (k : Nat) (P : List Int), av = .int .i64 ((k * 20 : Nat) : Int) ∧ bv = .int .i64 ((k * 20 + 20 : Nat) : Int) ∧ k * 20 ≤ n ∧ P.length = k * 20 ∧ PInv key 20 (L0.take (k * 20)) P ∧ Hp W (vals va vn vc (some ⟨gd, 0, none⟩) n c (P ++ L0.drop (k * 20)) :: l) wr) (fun av _ _ => n + 20 - (intOf av).toNat)
  case atStart => exact ⟨0, [], rfl, rfl, Nat.zero_le _, rfl, PInv.nil key 20, V0.out⟩
  case round =>
    clear V0
    obtain ⟨k, P, rfl, rfl, hkn, hPl, hP, hV⟩ := hrel
    obtain ⟨wi, rfl⟩ : ∃ wi : World, wi = wr := ⟨_, rfl⟩
    have V := Lib.hid hV
    have HPL := Lib.hid hPl
    have HP := Lib.hid hP
    clear hV hPl hP
    obtain ⟨a, haa⟩ : ∃ a, a = k * 20 := ⟨_, rfl⟩
    have HAK := Lib.hid haa
    rw [← haa] at HPL HP V hkn ⊢
    clear haa
    obtain ⟨b, hb⟩ : ∃ b, b = a + 20 := ⟨_, rfl⟩
    rw [← hb]
    have hb1 : a + 20 ≤ b := by omega
    have hb2 : b ≤ a + 20 := by omega
    clear hb
    by_cases hbn : b ≤ n
    case pos =>
      obtain ⟨X, hX⟩ : ∃ X, X = (L0.drop a).take 20 := ⟨_, rfl⟩
      obtain ⟨T, hT⟩ : ∃ T, T = L0.drop b := ⟨_, rfl⟩
      have e1 : L0.drop a = X ++ T := by
        rw [hX, hT, show b = a + 20 by omega, ← List.drop_drop, List.take_append_drop]
      have e2 : X.length = 20 := by rw [hX, List.length_take, List.length_drop, HN.out]; omega
      have E1 := Lib.hid e1
      have E2 := Lib.hid e2
      have E3 := Lib.hid (show L0.take b = L0.take a ++ X by rw [hX, show b = a + 20 by omega]; exact List.take_add)
      have E4 := Lib.hid (show X.Pairwise (· < ·) by rw [hX]; exact (HA.out.drop).take)
      have E5 := Lib.hid (show ∀ x ∈ X, 0 ≤ x ∧ x < (N : Int) from fun x hx => HNN.out x (by rw [hX] at hx; exact List.mem_of_mem_drop (List.mem_of_mem_take hx)))
      have E6 := Lib.hid (show b + T.length = n by rw [hT, List.length_drop, HN.out]; omega)
      have E7 := Lib.hid hT
      clear hX hT e1 e2
      have g1 : IntKind.i64.wrap ((b : Int) + 20) = ((b + 20 : Nat) : Int) := by rw [IntWalk.i64_in _ (by omega)]; omega
      go_wp2_with fail
      refine (insertion_any key N gb gd n c HCC.out P X T a b wi HPL.out (by rw [E2.out]; omega) E6.out hbig E4.out E5.out (by have h := V.out; rw [E1.out, ← List.append_assoc] at h; exact h)).mono ?_
      rintro e w2 ⟨rfl, Z, hz1, hz2, hp⟩
      have V2 := Lib.hid (show Hp W (vals va vn vc (some ⟨gd, 0, none⟩) n c ((P ++ Z) ++ L0.drop b) :: l) w2 by rw [← E7.out]; exact hp)
      have HPZ := Lib.hid (show PInv key 20 (L0.take b) (P ++ Z) by rw [E3.out]; exact HP.out.snoc (k := k) (by rw [HPL.out, HAK.out]) hz1 hz2 (by rw [E2.out]; exact Nat.le_refl _))
      have HZL := Lib.hid (show (P ++ Z).length = b by rw [List.length_append, HPL.out, hz1.length_eq, E2.out]; omega)
      have hbk : b = (k + 1) * 20 := by have := HAK.out; omega
      have HBK := Lib.hid hbk
      clear hz1 hz2 hp hbk V
      go_wp2_with fail
      go_roundw
      case rel => exact ⟨k + 1, P ++ Z, by rw [← HBK.out], by rw [← HBK.out]; first | rfl | exact congrArg (Value.int .i64) (by omega), by rw [← HBK.out]; exact hbn, by rw [← HBK.out]; exact HZL.out, by rw [← HBK.out]; exact HPZ.out, by rw [← HBK.out]; exact V2.out⟩
      case measure => simp [intOf]; omega
    case neg =>
      have E1 := Lib.hid (show (L0.drop a).length ≤ 20 by rw [List.length_drop, HN.out]; omega)
      have E2 := Lib.hid (show a + (L0.drop a).length = n by rw [List.length_drop, HN.out]; omega)
      go_wp2_with fail
      refine (insertion_any key N gb gd n c HCC.out P (L0.drop a) [] a n wi HPL.out E2.out (by rw [List.length_nil]; omega) hbig HA.out.drop (fun x hx => HNN.out x (List.mem_of_mem_drop hx)) (by rw [List.append_nil]; exact V.out)).mono ?_
      rintro e w2 ⟨rfl, Z, hz1, hz2, hp⟩
      have V2 := Lib.hid (show Hp W (vals va vn vc (some ⟨gd, 0, none⟩) n c (P ++ Z) :: l) w2 by rw [List.append_nil] at hp; exact hp)
      have HPZ := Lib.hid (show PInv key 20 L0 (P ++ Z) by
        have h := HP.out.snoc (k := k) (by rw [HPL.out, HAK.out]) hz1 hz2 E1.out
        rwa [List.take_append_drop] at h)
      clear hz1 hz2 hp V E1 E2 HP HPL HAK
      obtain ⟨Q, hQ⟩ : ∃ Q, Q = P ++ Z := ⟨_, rfl⟩
      rw [← hQ] at V2 HPZ
      clear hQ
      go_wp2_with fail
      go_loopw [6] (fun sv wr => ∃ (bs : Nat) (Q : List Int), sv = .int .i64 (bs : Int) ∧ 20 ≤ bs ∧ bs ≤ 2 * n + 20 ∧ PInv key bs L0 Q ∧ Hp W (vals va vn vc (some ⟨gd, 0, none⟩) n c Q :: l) wr) (fun sv _ => n - (intOf sv).toNat)
      case atStart => exact ⟨20, Q, rfl, Nat.le_refl _, by omega, HPZ.out, V2.out⟩
      case round =>
        clear V2 HPZ
        obtain ⟨bs, Q, rfl, hbs, hbs2, hinv, hV⟩ := hrel
        obtain ⟨wj, rfl⟩ : ∃ wj : World, wj = wr := ⟨_, rfl⟩
        have V := Lib.hid hV
        have HI := Lib.hid hinv
        clear hV hinv
        by_cases hlt : bs < n
        case neg =>
          have HQ := Lib.hid (HI.out.all (by rw [HI.out.1, HN.out]; omega))
          go_wp2_with fail
          exact bodyPost_end (results_none rfl _ _ _) rfl ⟨rfl, Q, HQ.out.2, HQ.out.1, V.out⟩
        have g2 : IntKind.i64.wrap (2 * (bs : Int)) = ((2 * bs : Nat) : Int) := by rw [IntWalk.i64_in _ (by omega)]; omega
        have g3 : IntKind.i64.wrap ((bs : Int) * 2) = ((2 * bs : Nat) : Int) := by rw [IntWalk.i64_in _ (by omega)]; omega
        obtain ⟨b2, hb2⟩ : ∃ b2, b2 = 2 * bs := ⟨_, rfl⟩
        rw [← hb2] at g2 g3
        have hb21 : bs + bs ≤ b2 := by omega
        have hb22 : b2 ≤ bs + bs := by omega
        clear hb2
        go_wp2_with fail
        go_loopw [7, 8] (fun av bv wr => ∃ (k a : Nat) (P R : List Int), av = .int .i64 (a : Int) ∧ bv = .int .i64 ((a + b2 : Nat) : Int) ∧ a = k * b2 ∧ a ≤ n ∧ P.length = a ∧ PInv key b2 (L0.take a) P ∧ PInv key bs (L0.drop a) R ∧ Hp W (vals va vn vc (some ⟨gd, 0, none⟩) n c (P ++ R) :: l) wr) (fun av _ _ => n + b2 - (intOf av).toNat)
        case atStart => exact ⟨0, 0, [], Q, rfl, by rw [Nat.zero_add], by rw [Nat.zero_mul], Nat.zero_le _, rfl, PInv.nil key b2, HI.out, V.out⟩
        case round =>
          clear V HI
          obtain ⟨k, a, P, R, rfl, rfl, hak, han, hPl, hP, hR, hV⟩ := hrel
          obtain ⟨wk, rfl⟩ : ∃ wk : World, wk = wr := ⟨_, rfl⟩
          have V := Lib.hid hV
          have HPL := Lib.hid hPl
          have HP := Lib.hid hP
          have HR := Lib.hid hR
          have HAK := Lib.hid hak
          have HRL := Lib.hid (show a + R.length = n by rw [hR.1, List.length_drop, HN.out]; omega)
          clear hV hPl hP hR hak
          obtain ⟨b, hb⟩ : ∃ b, b = a + b2 := ⟨_, rfl⟩
          rw [← hb]
          have hb1 : a + b2 ≤ b := by omega
          have hb3 : b ≤ a + b2 := by omega
          clear hb
          obtain ⟨m, hm⟩ : ∃ m, m = a + bs := ⟨_, rfl⟩
          have hm1 : a + bs ≤ m := by omega
          have hm2 : m ≤ a + bs := by omega
          clear hm
          have g4 : IntKind.i64.wrap ((a : Int) + (bs : Int)) = (m : Int) := by rw [IntWalk.i64_in _ (by omega)]; omega
          have g5 : IntKind.i64.wrap ((b : Int) + (b2 : Int)) = ((b + b2 : Nat) : Int) := by rw [IntWalk.i64_in _ (by omega)]; omega
          obtain ⟨X, hX⟩ : ∃ X, X = R.take bs := ⟨_, rfl⟩
          obtain ⟨Y, hY⟩ : ∃ Y, Y = (R.drop bs).take bs := ⟨_, rfl⟩
          obtain ⟨S, hS⟩ : ∃ S, S = R.drop (bs + bs) := ⟨_, rfl⟩
          have HTWO := Lib.hid (HR.out.two HA.out.drop hX hY)
          have HXYS := Lib.hid (show R = X ++ (Y ++ S) by rw [hX, hY, hS, ← List.drop_drop, List.take_append_drop, List.take_append_drop])
          have HXL := Lib.hid (show X.length = min bs R.length by rw [hX, List.length_take])
          have HYL := Lib.hid (show Y.length = min bs (R.length - bs) by rw [hY, List.length_take, List.length_drop])
          have HSL := Lib.hid (show S.length = R.length - (bs + bs) by rw [hS, List.length_drop])
          have HST := Lib.hid (show PInv key bs (L0.drop b) S by
            have h := HR.out.tail.tail
            rw [List.drop_drop, List.drop_drop, List.drop_drop] at h
            rw [hS, show b = a + (bs + bs) by omega]
            exact h)
          have HTK := Lib.hid (show L0.take b = L0.take a ++ (L0.drop a).take (bs + bs) by rw [show b = a + (bs + bs) by omega]; exact List.take_add)
          have HNX := Lib.hid (show ∀ x ∈ X ++ Y, 0 ≤ x ∧ x < (N : Int) from fun x hx => HNN.out x (List.mem_of_mem_drop (List.mem_of_mem_take (HTWO.out.2.2.2.mem_iff.1 hx))))
          have VX := Lib.hid (show Hp W (vals va vn vc (some ⟨gd, 0, none⟩) n c (P ++ X ++ (Y ++ S)) :: l) wk by have h := V.out; rw [HXYS.out, ← List.append_assoc] at h; exact h)
          clear hX hY hS
          by_cases hbn : b ≤ n
          case pos =>
            have hx1 : X.length = bs := by rw [HXL.out]; have := HRL.out; omega
            have hy1 : Y.length = bs := by rw [HYL.out]; have := HRL.out; omega
            have hs1 : b + S.length = n := by rw [HSL.out]; have := HRL.out; omega
            have HX1 := Lib.hid hx1
            have HY1 := Lib.hid hy1
            have HS1 := Lib.hid hs1
            clear hx1 hy1 hs1
            go_wp2_with fail
            refine (symMerge_any key N gb gd n c HCC.out hbig (b - a) P X Y S a m b wk (Nat.le_refl _) HPL.out (by rw [HX1.out]; omega) (by rw [HY1.out]; omega) HS1.out (by omega) (by omega) HTWO.out.1 HTWO.out.2.1 HTWO.out.2.2.1 (fun x hx => HNX.out x (List.mem_append_left _ hx)) (fun y hy => HNX.out y (List.mem_append_right _ hy)) VX.out).mono ?_
            rintro e w2 ⟨rfl, Z, hz, hp⟩
            have V2 := Lib.hid hp
            have HPZ := Lib.hid (show PInv key b2 (L0.take b) (P ++ Z) by
              rw [HTK.out]
              exact HP.out.snoc (k := k) (by rw [HPL.out]; exact HAK.out) (hz.1.trans HTWO.out.2.2.2) hz.2 (by rw [List.length_take]; omega))
            have HZL := Lib.hid (show (P ++ Z).length = b by rw [List.length_append, hz.len, HPL.out, HX1.out, HY1.out]; omega)
            have HBK := Lib.hid (show b = (k + 1) * b2 by rw [Nat.succ_mul, ← HAK.out]; omega)
            clear hz hp V VX
            go_wp2_with fail
            go_roundw
            case rel => exact ⟨k + 1, b, P ++ Z, S, rfl, by first | go_num | exact congrArg (Value.int .i64) (by omega), HBK.out, hbn, HZL.out, HPZ.out, HST.out, V2.out⟩
            case measure => simp [intOf]; omega
          case neg =>
            have HE := Lib.hid (show L0.take a ++ L0.drop a = L0 from List.take_append_drop a L0)
            by_cases hmn : m < n
            case pos =>
              have HX1 := Lib.hid (show X.length = bs by rw [HXL.out]; have := HRL.out; omega)
              have HY1 := Lib.hid (show m + Y.length = n by rw [HYL.out]; have := HRL.out; omega)
              have HS1 := Lib.hid (show S = [] from List.eq_nil_of_length_eq_zero (by rw [HSL.out]; have := HRL.out; omega))
              go_wp2_with fail
              refine (symMerge_any key N gb gd n c HCC.out hbig (n - a) P X Y S a m n wk (Nat.le_refl _) HPL.out (by rw [HX1.out]; omega) HY1.out (by rw [HS1.out]; rfl) (by omega) hmn HTWO.out.1 HTWO.out.2.1 HTWO.out.2.2.1 (fun x hx => HNX.out x (List.mem_append_left _ hx)) (fun y hy => HNX.out y (List.mem_append_right _ hy)) VX.out).mono ?_
              rintro e w2 ⟨rfl, Z, hz, hp⟩
              have V2 := Lib.hid (show Hp W (vals va vn vc (some ⟨gd, 0, none⟩) n c (P ++ Z) :: l) w2 by rw [HS1.out, List.append_nil] at hp; exact hp)
              have HPZ := Lib.hid (show PInv key b2 L0 (P ++ Z) by
                have h := HP.out.snoc (k := k) (by rw [HPL.out]; exact HAK.out) (hz.1.trans HTWO.out.2.2.2) hz.2 (by rw [List.length_take]; omega)
                have e := List.take_of_length_le (show (L0.drop a).length ≤ bs + bs by rw [List.length_drop, HN.out]; omega)
                rw [e, HE.out] at h
                exact h)
              clear hz hp V VX
              go_wp2_with fail
              go_roundw
              case rel => exact ⟨b2, _, rfl, by omega, by omega, HPZ.out, V2.out⟩
              case measure => simp [intOf]; omega
            case neg =>
              have HPZ := Lib.hid (show PInv key b2 L0 (P ++ R) by
                have h1 := HR.out.all (by have := HRL.out; omega)
                have h := HP.out.snoc (k := k) (by rw [HPL.out]; exact HAK.out) h1.2 h1.1 (by rw [List.length_drop, HN.out]; omega)
                rw [HE.out] at h
                exact h)
              clear VX
              go_wp2_with fail
              go_roundw
              case rel => exact ⟨b2, _, rfl, by omega, by omega, HPZ.out, V.out⟩
              case measure => simp [intOf]; omega
theorem stableF_any {W : World} {l : List Itm} {va : Int → Option Addr} {vn vc : Int → Nat} (key : Int → Int) (N gb gd n c : Nat) (HC : CmpOk va vn vc key N gb gd n c W l) (hbig : n ≤ 1000000) (L0 : List Int) (w : World) (hn : L0.length = n) (ha : L0.Pairwise (· < ·)) (hN : ∀ x ∈ L0, 0 ≤ x ∧ x < (N : Int)) (hV : Hp W (vals va vn vc (some ⟨gd, 0, none⟩) n c L0 :: l) w) :
    Calls Tryz.prog 73 #[.slice (some ⟨gd, 0, none⟩) n c, FVal gb] w fun e w' => e = .returned (.tuple #[]) ∧ ∃ Z, Z.Perm L0 ∧ Z.Pairwise (RL key) ∧ Hp W (vals va vn vc (some ⟨gd, 0, none⟩) n c Z :: l) w' := by
  have V0 := Lib.hid hV
  have HCC := Lib.hid HC
  have HN := Lib.hid hn
  have HA := Lib.hid ha
  have HNN := Lib.hid hN
  clear hV HC hn ha hN
  go_enter Tryz.func73, Tryz.ntmps73
  go_wp2_with fail
  refine (stable_any key N gb gd n c HCC.out hbig L0 w HN.out HA.out HNN.out V0.out).mono ?_
  rintro e w2 ⟨rfl, Z, h1, h2, h3⟩
  have V2 := Lib.hid h3
  have H1 := Lib.hid h1
  have H2 := Lib.hid h2
  clear h1 h2 h3
  go_wp2_with fail
  exact bodyPost_end (results_none rfl _ _ _) rfl ⟨rfl, Z, H1.out, H2.out, V2.out⟩
end Go.Proofs.YtpifchlpakajjaaGreat.St
