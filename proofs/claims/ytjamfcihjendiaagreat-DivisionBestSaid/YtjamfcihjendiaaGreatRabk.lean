/- Several texts in one: Sg, Zi. -/
import Derived.Test.YtjamfcihjendiaaGreatRabj
import Derived.Test.YtjamfcihjendiaaGreatRabf
import Derived.Deep.RegionLaw
namespace Go.Proofs.YtjamfcihjendiaaGreat.St
open Go.RowKit
set_option linter.unusedVariables false
set_option linter.unusedSimpArgs false
set_option maxRecDepth 100000

set_option maxHeartbeats 64000000 in
theorem stable_any {W : World} {l : List Itm} {va : Int → Option Addr} {vn vc : Int → Nat} (key : Int → Int) (N gb gd n c : Nat) (HC : CmpOk va vn vc key N gb gd n c W l) (hbig : n ≤ 1000000) (L0 : List Int) (w : World) (hn : L0.length = n) (ha : L0.Pairwise (· < ·)) (hN : ∀ x ∈ L0, 0 ≤ x ∧ x < (N : Int)) (hV : Hp W (vals va vn vc (some ⟨gd, 0, none⟩) n c L0 :: l) w) :
    Calls Tryz.prog 62 #[.slice (some ⟨gd, 0, none⟩) n c, .int .i64 (n : Int), FVal gb] w fun e w' => e = .returned (.tuple #[]) ∧ ∃ Z, Z.Perm L0 ∧ Z.Pairwise (RL key) ∧ Hp W (vals va vn vc (some ⟨gd, 0, none⟩) n c Z :: l) w' := by
  have V0 := Lib.hid hV
  have HCC := Lib.hid HC
  have HN := Lib.hid hn
  have HA := Lib.hid ha
  have HNN := Lib.hid hN
  clear hV HC hn ha hN
  go_enter Tryz.func62, Tryz.ntmps62
  go_wp2_with fail
  go_loopw [7, 8] (fun av bv wr => ∃ (k : Nat) (P : List Int), av = .int .i64 ((k * 20 : Nat) : Int) ∧ bv = .int .i64 ((k * 20 + 20 : Nat) : Int) ∧ k * 20 ≤ n ∧ P.length = k * 20 ∧ PInv key 20 (L0.take (k * 20)) P ∧ Hp W (vals va vn vc (some ⟨gd, 0, none⟩) n c (P ++ L0.drop (k * 20)) :: l) wr) (fun av _ _ => n + 20 - (intOf av).toNat)
  case atStart => exact ⟨0, [], rfl, rfl, Nat.zero_le _, rfl, PInv.nil key 20, V0.out⟩
  case round =>
    clear V0
    obtain ⟨k, P, rfl, rfl, hkn, hPl, hP, hV⟩ := hrel
    obtain ⟨wi, rfl⟩ : ∃ wi : World, wi = wr := ⟨_, rfl⟩
    have V := Lib.hid hV
    have HPL := Lib.hid hPl
    have HP := Lib.hid hP
    clear hV hPl hP
    obtain ⟨a, haa⟩ : ∃ a, a = k * 20 := ⟨_, rfl⟩
    have HAK := Lib.hid haa
    rw [← haa] at HPL HP V hkn ⊢
    clear haa
    obtain ⟨b, hb⟩ : ∃ b, b = a + 20 := ⟨_, rfl⟩
    rw [← hb]
    have hb1 : a + 20 ≤ b := by omega
    have hb2 : b ≤ a + 20 := by omega
    clear hb
    by_cases hbn : b ≤ n
    case pos =>
      obtain ⟨X, hX⟩ : ∃ X, X = (L0.drop a).take 20 := ⟨_, rfl⟩
      obtain ⟨T, hT⟩ : ∃ T, T = L0.drop b := ⟨_, rfl⟩
      have e1 : L0.drop a = X ++ T := by
        rw [hX, hT, show b = a + 20 by omega, ← List.drop_drop, List.take_append_drop]
      have e2 : X.length = 20 := by rw [hX, List.length_take, List.length_drop, HN.out]; omega
      have E1 := Lib.hid e1
      have E2 := Lib.hid e2
      have E3 := Lib.hid (show L0.take b = L0.take a ++ X by rw [hX, show b = a + 20 by omega]; exact List.take_add)
      have E4 := Lib.hid (show X.Pairwise (· < ·) by rw [hX]; exact (HA.out.drop).take)
      have E5 := Lib.hid (show ∀ x ∈ X, 0 ≤ x ∧ x < (N : Int) from fun x hx => HNN.out x (by rw [hX] at hx; exact List.mem_of_mem_drop (List.mem_of_mem_take hx)))
      have E6 := Lib.hid (show b + T.length = n by rw [hT, List.length_drop, HN.out]; omega)
      have E7 := Lib.hid hT
      clear hX hT e1 e2
      have g1 : IntKind.i64.wrap ((b : Int) + 20) = ((b + 20 : Nat) : Int) := by rw [IntWalk.i64_in _ (by omega)]; omega
      go_wp2_with fail
      refine (insertion_any key N gb gd n c HCC.out P X T a b wi HPL.out (by rw [E2.out]; omega) E6.out hbig E4.out E5.out (by have h := V.out; rw [E1.out, ← List.append_assoc] at h; exact h)).mono ?_
      rintro e w2 ⟨rfl, Z, hz1, hz2, hp⟩
      have V2 := Lib.hid (show Hp W (vals va vn vc (some ⟨gd, 0, none⟩) n c ((P ++ Z) ++ L0.drop b) :: l) w2 by rw [← E7.out]; exact hp)
      have HPZ := Lib.hid (show PInv key 20 (L0.take b) (P ++ Z) by rw [E3.out]; exact HP.out.snoc (k := k) (by rw [HPL.out, HAK.out]) hz1 hz2 (by rw [E2.out]; exact Nat.le_refl _))
      have HZL := Lib.hid (show (P ++ Z).length = b by rw [List.length_append, HPL.out, hz1.length_eq, E2.out]; omega)
      have hbk : b = (k + 1) * 20 := by have := HAK.out; omega
      have HBK := Lib.hid hbk
      clear hz1 hz2 hp hbk V
      go_wp2_with fail
      go_roundw
      case rel => exact ⟨k + 1, P ++ Z, by rw [← HBK.out], by rw [← HBK.out]; first | rfl | exact congrArg (Value.int .i64) (by omega), by rw [← HBK.out]; exact hbn, by rw [← HBK.out]; exact HZL.out, by rw [← HBK.out]; exact HPZ.out, by rw [← HBK.out]; exact V2.out⟩
      case measure => simp [intOf]; omega
    case neg =>
      have E1 := Lib.hid (show (L0.drop a).length ≤ 20 by rw [List.length_drop, HN.out]; omega)
      have E2 := Lib.hid (show a + (L0.drop a).length = n by rw [List.length_drop, HN.out]; omega)
      go_wp2_with fail
      refine (insertion_any key N gb gd n c HCC.out P (L0.drop a) [] a n wi HPL.out E2.out (by rw [List.length_nil]; omega) hbig HA.out.drop (fun x hx => HNN.out x (List.mem_of_mem_drop hx)) (by rw [List.append_nil]; exact V.out)).mono ?_
      rintro e w2 ⟨rfl, Z, hz1, hz2, hp⟩
      have V2 := Lib.hid (show Hp W (vals va vn vc (some ⟨gd, 0, none⟩) n c (P ++ Z) :: l) w2 by rw [List.append_nil] at hp; exact hp)
      have HPZ := Lib.hid (show PInv key 20 L0 (P ++ Z) by
        have h := HP.out.snoc (k := k) (by rw [HPL.out, HAK.out]) hz1 hz2 E1.out
        rwa [List.take_append_drop] at h)
      clear hz1 hz2 hp V E1 E2 HP HPL HAK
      obtain ⟨Q, hQ⟩ : ∃ Q, Q = P ++ Z := ⟨_, rfl⟩
      rw [← hQ] at V2 HPZ
      clear hQ
      go_wp2_with fail
      go_loopw [6] (fun sv wr => ∃ (bs : Nat) (Q : List Int), sv = .int .i64 (bs : Int) ∧ 20 ≤ bs ∧ bs ≤ 2 * n + 20 ∧ PInv key bs L0 Q ∧ Hp W (vals va vn vc (some ⟨gd, 0, none⟩) n c Q :: l) wr) (fun sv _ => n - (intOf sv).toNat)
      case atStart => exact ⟨20, Q, rfl, Nat.le_refl _, by omega, HPZ.out, V2.out⟩
      case round =>
        clear V2 HPZ
        obtain ⟨bs, Q, rfl, hbs, hbs2, hinv, hV⟩ := hrel
        obtain ⟨wj, rfl⟩ : ∃ wj : World, wj = wr := ⟨_, rfl⟩
        have V := Lib.hid hV
        have HI := Lib.hid hinv
        clear hV hinv
        by_cases hlt : bs < n
        case neg =>
          have HQ := Lib.hid (HI.out.all (by rw [HI.out.1, HN.out]; omega))
          go_wp2_with fail
          exact bodyPost_end (results_none rfl _ _ _) rfl ⟨rfl, Q, HQ.out.2, HQ.out.1, V.out⟩
        have g2 : IntKind.i64.wrap (2 * (bs : Int)) = ((2 * bs : Nat) : Int) := by rw [IntWalk.i64_in _ (by omega)]; omega
        have g3 : IntKind.i64.wrap ((bs : Int) * 2) = ((2 * bs : Nat) : Int) := by rw [IntWalk.i64_in _ (by omega)]; omega
        obtain ⟨b2, hb2⟩ : ∃ b2, b2 = 2 * bs := ⟨_, rfl⟩
        rw [← hb2] at g2 g3
        have hb21 : bs + bs ≤ b2 := by omega
        have hb22 : b2 ≤ bs + bs := by omega
        clear hb2
        go_wp2_with fail
        go_loopw [7, 8] (fun av bv wr => ∃ (k a : Nat) (P R : List Int), av = .int .i64 (a : Int) ∧ bv = .int .i64 ((a + b2 : Nat) : Int) ∧ a = k * b2 ∧ a ≤ n ∧ P.length = a ∧ PInv key b2 (L0.take a) P ∧ PInv key bs (L0.drop a) R ∧ Hp W (vals va vn vc (some ⟨gd, 0, none⟩) n c (P ++ R) :: l) wr) (fun av _ _ => n + b2 - (intOf av).toNat)
        case atStart => exact ⟨0, 0, [], Q, rfl, by rw [Nat.zero_add], by rw [Nat.zero_mul], Nat.zero_le _, rfl, PInv.nil key b2, HI.out, V.out⟩
        case round =>
          clear V HI
          obtain ⟨k, a, P, R, rfl, rfl, hak, han, hPl, hP, hR, hV⟩ := hrel
          obtain ⟨wk, rfl⟩ : ∃ wk : World, wk = wr := ⟨_, rfl⟩
          have V := Lib.hid hV
          have HPL := Lib.hid hPl
          have HP := Lib.hid hP
          have HR := Lib.hid hR
          have HAK := Lib.hid hak
          have HRL := Lib.hid (show a + R.length = n by rw [hR.1, List.length_drop, HN.out]; omega)
          clear hV hPl hP hR hak
          obtain ⟨b, hb⟩ : ∃ b, b = a + b2 := ⟨_, rfl⟩
          rw [← hb]
          have hb1 : a + b2 ≤ b := by omega
          have hb3 : b ≤ a + b2 := by omega
          clear hb
          obtain ⟨m, hm⟩ : ∃ m, m = a + bs := ⟨_, rfl⟩
          have hm1 : a + bs ≤ m := by omega
          have hm2 : m ≤ a + bs := by omega
          clear hm
          have g4 : IntKind.i64.wrap ((a : Int) + (bs : Int)) = (m : Int) := by rw [IntWalk.i64_in _ (by omega)]; omega
          have g5 : IntKind.i64.wrap ((b : Int) + (b2 : Int)) = ((b + b2 : Nat) : Int) := by rw [IntWalk.i64_in _ (by omega)]; omega
          obtain ⟨X, hX⟩ : ∃ X, X = R.take bs := ⟨_, rfl⟩
          obtain ⟨Y, hY⟩ : ∃ Y, Y = (R.drop bs).take bs := ⟨_, rfl⟩
          obtain ⟨S, hS⟩ : ∃ S, S = R.drop (bs + bs) := ⟨_, rfl⟩
          have HTWO := Lib.hid (HR.out.two HA.out.drop hX hY)
          have HXYS := Lib.hid (show R = X ++ (Y ++ S) by rw [hX, hY, hS, ← List.drop_drop, List.take_append_drop, List.take_append_drop])
          have HXL := Lib.hid (show X.length = min bs R.length by rw [hX, List.length_take])
          have HYL := Lib.hid (show Y.length = min bs (R.length - bs) by rw [hY, List.length_take, List.length_drop])
          have HSL := Lib.hid (show S.length = R.length - (bs + bs) by rw [hS, List.length_drop])
          have HST := Lib.hid (show PInv key bs (L0.drop b) S by
            have h := HR.out.tail.tail
            rw [List.drop_drop, List.drop_drop, List.drop_drop] at h
            rw [hS, show b = a + (bs + bs) by omega]
            exact h)
          have HTK := Lib.hid (show L0.take b = L0.take a ++ (L0.drop a).take (bs + bs) by rw [show b = a + (bs + bs) by omega]; exact List.take_add)
          have HNX := Lib.hid (show ∀ x ∈ X ++ Y, 0 ≤ x ∧ x < (N : Int) from fun x hx => HNN.out x (List.mem_of_mem_drop (List.mem_of_mem_take (HTWO.out.2.2.2.mem_iff.1 hx))))
          have VX := Lib.hid (show Hp W (vals va vn vc (some ⟨gd, 0, none⟩) n c (P ++ X ++ (Y ++ S)) :: l) wk by have h := V.out; rw [HXYS.out, ← List.append_assoc] at h; exact h)
          clear hX hY hS
          by_cases hbn : b ≤ n
          case pos =>
            have hx1 : X.length = bs := by rw [HXL.out]; have := HRL.out; omega
            have hy1 : Y.length = bs := by rw [HYL.out]; have := HRL.out; omega
            have hs1 : b + S.length = n := by rw [HSL.out]; have := HRL.out; omega
            have HX1 := Lib.hid hx1
            have HY1 := Lib.hid hy1
            have HS1 := Lib.hid hs1
            clear hx1 hy1 hs1
            go_wp2_with fail
            refine (symMerge_any key N gb gd n c HCC.out hbig (b - a) P X Y S a m b wk (Nat.le_refl _) HPL.out (by rw [HX1.out]; omega) (by rw [HY1.out]; omega) HS1.out (by omega) (by omega) HTWO.out.1 HTWO.out.2.1 HTWO.out.2.2.1 (fun x hx => HNX.out x (List.mem_append_left _ hx)) (fun y hy => HNX.out y (List.mem_append_right _ hy)) VX.out).mono ?_
            rintro e w2 ⟨rfl, Z, hz, hp⟩
            have V2 := Lib.hid hp
            have HPZ := Lib.hid (show PInv key b2 (L0.take b) (P ++ Z) by
              rw [HTK.out]
              exact HP.out.snoc (k := k) (by rw [HPL.out]; exact HAK.out) (hz.1.trans HTWO.out.2.2.2) hz.2 (by rw [List.length_take]; omega))
            have HZL := Lib.hid (show (P ++ Z).length = b by rw [List.length_append, hz.len, HPL.out, HX1.out, HY1.out]; omega)
            have HBK := Lib.hid (show b = (k + 1) * b2 by rw [Nat.succ_mul, ← HAK.out]; omega)
            clear hz hp V VX
            go_wp2_with fail
            go_roundw
            case rel => exact ⟨k + 1, b, P ++ Z, S, rfl, by first | go_num | exact congrArg (Value.int .i64) (by omega), HBK.out, hbn, HZL.out, HPZ.out, HST.out, V2.out⟩
            case measure => simp [intOf]; omega
          case neg =>
            have HE := Lib.hid (show L0.take a ++ L0.drop a = L0 from List.take_append_drop a L0)
            by_cases hmn : m < n
            case pos =>
              have HX1 := Lib.hid (show X.length = bs by rw [HXL.out]; have := HRL.out; omega)
              have HY1 := Lib.hid (show m + Y.length = n by rw [HYL.out]; have := HRL.out; omega)
              have HS1 := Lib.hid (show S = [] from List.eq_nil_of_length_eq_zero (by rw [HSL.out]; have := HRL.out; omega))
              go_wp2_with fail
              refine (symMerge_any key N gb gd n c HCC.out hbig (n - a) P X Y S a m n wk (Nat.le_refl _) HPL.out (by rw [HX1.out]; omega) HY1.out (by rw [HS1.out]; rfl) (by omega) hmn HTWO.out.1 HTWO.out.2.1 HTWO.out.2.2.1 (fun x hx => HNX.out x (List.mem_append_left _ hx)) (fun y hy => HNX.out y (List.mem_append_right _ hy)) VX.out).mono ?_
              rintro e w2 ⟨rfl, Z, hz, hp⟩
              have V2 := Lib.hid (show Hp W (vals va vn vc (some ⟨gd, 0, none⟩) n c (P ++ Z) :: l) w2 by rw [HS1.out, List.append_nil] at hp; exact hp)
              have HPZ := Lib.hid (show PInv key b2 L0 (P ++ Z) by
                have h := HP.out.snoc (k := k) (by rw [HPL.out]; exact HAK.out) (hz.1.trans HTWO.out.2.2.2) hz.2 (by rw [List.length_take]; omega)
                have e := List.take_of_length_le (show (L0.drop a).length ≤ bs + bs by rw [List.length_drop, HN.out]; omega)
                rw [e, HE.out] at h
                exact h)
              clear hz hp V VX
              go_wp2_with fail
              go_roundw
              case rel => exact ⟨b2, _, rfl, by omega, by omega, HPZ.out, V2.out⟩
              case measure => simp [intOf]; omega
            case neg =>
              have HPZ := Lib.hid (show PInv key b2 L0 (P ++ R) by
                have h1 := HR.out.all (by have := HRL.out; omega)
                have h := HP.out.snoc (k := k) (by rw [HPL.out]; exact HAK.out) h1.2 h1.1 (by rw [List.length_drop, HN.out]; omega)
                rw [HE.out] at h
                exact h)
              clear VX
              go_wp2_with fail
              go_roundw
              case rel => exact ⟨b2, _, rfl, by omega, by omega, HPZ.out, V.out⟩
              case measure => simp [intOf]; omega
theorem stableF_any {W : World} {l : List Itm} {va : Int → Option Addr} {vn vc : Int → Nat} (key : Int → Int) (N gb gd n c : Nat) (HC : CmpOk va vn vc key N gb gd n c W l) (hbig : n ≤ 1000000) (L0 : List Int) (w : World) (hn : L0.length = n) (ha : L0.Pairwise (· < ·)) (hN : ∀ x ∈ L0, 0 ≤ x ∧ x < (N : Int)) (hV : Hp W (vals va vn vc (some ⟨gd, 0, none⟩) n c L0 :: l) w) :
    Calls Tryz.prog 41 #[.slice (some ⟨gd, 0, none⟩) n c, FVal gb] w fun e w' => e = .returned (.tuple #[]) ∧ ∃ Z, Z.Perm L0 ∧ Z.Pairwise (RL key) ∧ Hp W (vals va vn vc (some ⟨gd, 0, none⟩) n c Z :: l) w' := by
  have V0 := Lib.hid hV
  have HCC := Lib.hid HC
  have HN := Lib.hid hn
  have HA := Lib.hid ha
  have HNN := Lib.hid hN
  clear hV HC hn ha hN
  go_enter Tryz.func41, Tryz.ntmps41
  go_wp2_with fail
  refine (stable_any key N gb gd n c HCC.out hbig L0 w HN.out HA.out HNN.out V0.out).mono ?_
  rintro e w2 ⟨rfl, Z, h1, h2, h3⟩
  have V2 := Lib.hid h3
  have H1 := Lib.hid h1
  have H2 := Lib.hid h2
  clear h1 h2 h3
  go_wp2_with fail
  exact bodyPost_end (results_none rfl _ _ _) rfl ⟨rfl, Z, H1.out, H2.out, V2.out⟩
end Go.Proofs.YtjamfcihjendiaaGreat.St

namespace Go.Proofs.YtjamfcihjendiaaGreat
open Go.RowKit
set_option linter.unusedVariables false
set_option linter.unusedSimpArgs false
set_option maxRecDepth 100000

def zP : Prow := ((none, 0), [])
def psA (ps : List Prow) (x : Int) : Prow := ps.getD x.toNat zP
theorem psA_at {ps : List Prow} {i : Nat} {p : Prow} (h : ps[i]? = some p) : psA ps (i : Int) = p := by unfold psA; rw [Int.toNat_natCast, List.getD_eq_getElem?_getD, h]; rfl
def idS (n : Nat) : List Int := (List.range n).map fun i : Nat => (i : Int)
theorem idS_len (n : Nat) : (idS n).length = n := by simp [idS]
theorem idS_asc (n : Nat) : (idS n).Pairwise (· < ·) := by
  unfold idS
  rw [List.pairwise_map]
  refine List.Pairwise.imp ?_ List.pairwise_lt_range
  intro a b h; omega
theorem idS_mem {n : Nat} {x : Int} : x ∈ idS n ↔ 0 ≤ x ∧ x < (n : Int) := by
  unfold idS
  rw [List.mem_map]
  constructor
  · rintro ⟨i, hi, rfl⟩
    have := List.mem_range.1 hi
    omega
  · intro h
    exact ⟨x.toNat, List.mem_range.2 (by omega), by omega⟩
theorem idS_map (ps : List Prow) : (idS ps.length).map (psA ps) = ps := by
  apply List.ext_getElem (by simp [idS])
  intro i h1 h2
  have hi : i < ps.length := h2
  simp only [idS, List.getElem_map, List.getElem_range]
  exact psA_at (List.getElem?_eq_getElem hi)
theorem sort_map {L : List Sg} {ps : List Prow} {Z : List Int} (hasc : (ps.map (·.2)).Pairwise (fun x y => lexB x y = true)) (hp : Z.Perm (idS ps.length)) (hs : Z.Pairwise (St.RL fun x => cD L (psA ps x).2)) :
    (Z.map (psA ps)).Perm ps ∧ (Z.map (psA ps)).map (·.2) = srtD L (ps.map (·.2)) := by
  have h1 : (Z.map (psA ps)).Perm ps := by
    have := hp.map (psA ps)
    rwa [idS_map] at this
  refine ⟨h1, ?_⟩
  have hnd : (ps.map (·.2)).Nodup := hasc.imp (fun {a b} h e => by rw [e, lexB_irrefl] at h; cases h)
  refine Ord.uniq ?_ (srtD_ord hnd) (fun x => ?_)
  · unfold Ord
    rw [List.map_map, List.pairwise_map]
    have hm : ∀ x ∈ Z, 0 ≤ x ∧ x < (ps.length : Int) := fun x hx => idS_mem.1 (hp.mem_iff.1 hx)
    refine List.Pairwise.imp_of_mem ?_ hs
    intro x y hx hy hxy
    show befB L (psA ps x).2 (psA ps y).2 = true
    unfold befB
    rcases hxy with h | ⟨h, h2⟩
    · have h : cD L (psA ps x).2 < cD L (psA ps y).2 := h
      rw [if_neg (by omega)]
      exact decide_eq_true h
    · have h : cD L (psA ps x).2 = cD L (psA ps y).2 := h
      rw [if_pos h]
      have hx' := hm x hx
      have hy' := hm y hy
      have := List.pairwise_iff_getElem.1 hasc x.toNat y.toNat (by rw [List.length_map]; omega) (by rw [List.length_map]; omega) (by omega)
      rw [List.getElem_map, List.getElem_map] at this
      unfold psA
      rw [List.getD_eq_getElem?_getD, List.getD_eq_getElem?_getD, List.getElem?_eq_getElem (by omega), List.getElem?_eq_getElem (by omega)]
      exact this
  · rw [srtD_mem hnd]
    exact (h1.map (·.2)).mem_iff
theorem hdr_vals {Q : Option Addr} {q e : Nat} {ps : List Prow} (Z : List Int) : hdrP Q q e (Z.map (psA ps)) = vals (fun x => (psA ps x).1.1) (fun x => (psA ps x).2.length) (fun x => (psA ps x).1.2) Q q e Z := by
  unfold hdrP vals rvP
  rw [List.map_map]
  rfl
set_option maxHeartbeats 2000000 in
theorem cmpD_any (nm : List UInt8) (L : List Sg) (A : Option Addr) (n c : Nat) (a b : List Nat) (D1 D2 : Option Addr) (m1 e1 m2 e2 gb : Nat) (w : World) (hv : (vO nm L).2 = 0) (hl : L.length = n) (hA : SgnIn w A L) (ha : ∀ i ∈ a, i < n) (hb : ∀ i ∈ b, i < n) (hm1 : a.length = m1) (hm2 : b.length = m2) (hb1 : m1 ≤ 1000) (hb2 : m2 ≤ 1000) (hD1 : CellsIn w D1 (ints (dI a))) (hD2 : CellsIn w D2 (ints (dI b)))
    (r0 : w.cell? ⟨gb, 0, none⟩ = some (.string (bs nm))) (r1 : w.cell? ⟨gb, 1, none⟩ = some (.slice A n c)) (r9 : gb < w.heap.size) :
    Calls Tryz.prog 42 #[.slice D1 m1 e1, .slice D2 m2 e2, .pointer (some ⟨gb, 0, none⟩)] w fun r w' => ∃ z, r = .returned (.int .i64 z) ∧ (z < 0 ↔ cD L a < cD L b) ∧ Below w.heap.size w w' := by
  have C1 := Lib.hid (fun (w' : World) (h : Below w.heap.size w w') => costP_any nm L A n c a D1 m1 e1 w' hv hl (hA.below h) ha hm1 hb1 (hD1.below h))
  have C2 := Lib.hid (fun (w' : World) (h : Below w.heap.size w w') => costP_any nm L A n c b D2 m2 e2 w' hv hl (hA.below h) hb hm2 hb2 (hD2.below h))
  have hba := cD_bd hv (d := a) (by rw [hl]; exact ha)
  have hbb := cD_bd hv (d := b) (by rw [hl]; exact hb)
  obtain ⟨ca, hca⟩ : ∃ z, z = cD L a := ⟨_, rfl⟩
  obtain ⟨cb, hcb⟩ : ∃ z, z = cD L b := ⟨_, rfl⟩
  have HCA := Lib.hid hca
  have HCB := Lib.hid hcb
  rw [← hca] at hba C1
  rw [← hcb] at hbb C2
  have h1 : 0 ≤ ca ∧ ca ≤ 99000 := by omega
  have h2 : 0 ≤ cb ∧ cb ≤ 99000 := by omega
  have hws : IntKind.i64.wrap (ca - cb) = ca - cb := IntWalk.i64_in _ (by omega)
  have V0 := Lib.hid (show Hp w [] w from Hp.start w)
  have HR0 := Lib.hid (And.intro r9 r0)
  have HR1 := Lib.hid (And.intro r9 r1)
  clear hv hl hA ha hb hm1 hm2 hD1 hD2 hca hcb hba hbb r0 r1
  go_enter Tryz.func42, Tryz.ntmps42
  go_upto_region 1 with fail
  have hKp : Keep [(⟨gb, 0, none⟩, .string (bs nm)), (⟨gb, 1, none⟩, .slice A n c)] w := List.forall_mem_cons.2 ⟨⟨(V0.out.below.cell (p := ⟨gb, 0, none⟩) HR0.out.1).trans HR0.out.2, Nat.lt_of_lt_of_le HR0.out.1 V0.out.below.size⟩, List.forall_mem_cons.2 ⟨⟨(V0.out.below.cell (p := ⟨gb, 1, none⟩) HR1.out.1).trans HR1.out.2, Nat.lt_of_lt_of_le HR1.out.1 V0.out.below.size⟩, fun _ h => by simp at h⟩⟩
  refine wp_region_held_drew (S := Keep _) (by kernel_rfl) hKp.drew (fun hHeld => ?_)
  obtain ⟨wf, hwf⟩ : ∃ z, z = w.drew := ⟨_, rfl⟩
  have Vwf := Lib.hid (show Hp w ([]) wf by rw [hwf]; exact V0.out.go (bdrew _))
  have Bwf := Lib.hid (show Below w.heap.size w wf by rw [hwf]; exact bdrew _)
  rw [← hwf] at hHeld ⊢
  clear hwf hKp
  refine tk 0 ?_ rfl ?_ ?_; rotate_left
  · intro wl hSw
    have hSw : Keep _ wl := hSw
    have k0 := (hSw _ (.head _)).1
    have k1 := (hSw _ (.tail _ (.head _))).1
    dsimp only at k0 k1
    clear hSw
    go_simp
    try (with_reducible rfl)
  try simp only [Act.put, sA, sZ, sS]
  refine tk 1 ?_ rfl ?_ ?_; rotate_left; focus (intro w hSw; clear hSw; go_simp; try (with_reducible rfl))
  try simp only [Act.put, sA, sZ, sS]
  refine tk 3 ?_ rfl ?_ ?_; rotate_left
  · intro wl hSw
    have hSw : Keep _ wl := hSw
    have k0 := (hSw _ (.head _)).1
    have k1 := (hSw _ (.tail _ (.head _))).1
    dsimp only at k0 k1
    clear hSw
    go_simp
    try (with_reducible rfl)
  try simp only [Act.put, sA, sZ, sS]
  refine tk 4 ?_ rfl ?_ ?_; rotate_left; focus (intro w hSw; clear hSw; go_simp; try (with_reducible rfl))
  try simp only [Act.put, sA, sZ, sS]
  refine wpAnyH_ready (rs := [2]) (by kernel_rfl) (by simp) ?_
  refine AllReadyH.cons (List.getElem?_toArray.trans rfl) (fun K hK => ?_) AllReadyH.nil
  go_simp
  refine (C1.out _ Vwf.out.below).mono ?_
  rintro r w_2 ⟨rfl, hb⟩
  have V_2 := Lib.hid (Vwf.out.go hb)
  have B_2 := Lib.hid hb
  clear hb
  try go_wp2_with fail
  refine hK.out _ _ (hHeld.go B_2.out) (fun hHeld => ?_)
  clear hK K
  try simp only [Act.put, sA, sZ, sS]
  refine wpAnyH_ready (rs := [5]) (by kernel_rfl) (by simp) ?_
  refine AllReadyH.cons (List.getElem?_toArray.trans rfl) (fun K hK => ?_) AllReadyH.nil
  go_simp
  refine (C2.out _ V_2.out.below).mono ?_
  rintro r w_2_5 ⟨rfl, hb⟩
  have V_2_5 := Lib.hid (V_2.out.go hb)
  have B_2_5 := Lib.hid hb
  clear hb
  try go_wp2_with fail
  refine hK.out _ _ (hHeld.go B_2_5.out) (fun hHeld => ?_)
  clear hK K
  try simp only [Act.put, sA, sZ, sS]
  refine tk 6 ?_ rfl ?_ ?_; rotate_left; focus (intro w hSw; clear hSw; go_simp; try (with_reducible rfl))
  try simp only [Act.put, sA, sZ, sS]
  refine tk 7 ?_ rfl ?_ ?_; rotate_left; focus (intro w hSw; clear hSw; go_simp; try (with_reducible rfl))
  try simp only [Act.put, sA, sZ, sS]
  refine wpAnyH_done (by kernel_rfl) ?_ _
  clear hHeld
  go_wp2_with fail
  go_ret
  exact ⟨ca - cb, rfl, by rw [← HCA.out, ← HCB.out]; omega, V_2_5.out.below⟩
set_option maxHeartbeats 4000000 in
theorem sortD_any (nm : List UInt8) (L : List Sg) (A : Option Addr) (n c : Nat) (Q : Option Addr) (q e : Nat) (ps : List Prow) (W w : World) (hv : (vO nm L).2 = 0) (hl : L.length = n) (hA : SgnIn W A L) (hq : ps.length = q) (hq0 : 0 < q) (hq2 : q ≤ 200) (hP : ∀ p ∈ ps, p.2.length ≤ 1000 ∧ ∀ i ∈ p.2, i < n) (hasc : (ps.map (·.2)).Pairwise (fun x y => lexB x y = true)) (hV : Hp W (hdrP Q q e ps :: rowP ps) w) :
    Calls Tryz.prog 20 #[.agg #[.string (bs nm), .slice A n c], .slice Q q e] w fun r w' => r = .returned (.tuple #[]) ∧ ∃ ps', ps'.Perm ps ∧ ps'.map (·.2) = srtD L (ps.map (·.2)) ∧ Hp W (hdrP Q q e ps' :: rowP ps) w' := by
  obtain ⟨gd, rfl⟩ := hV.head (i := 0) rfl (it := hdrP Q q e ps) (A := Q) (c := e) rfl hq0
  obtain ⟨g1, hg1⟩ : ∃ z, z = w.heap.size := ⟨_, rfl⟩
  obtain ⟨W1, hW1⟩ : ∃ z, z = w.alloc (.cells #[.string (bs nm), .slice A n c] 24) := ⟨_, rfl⟩
  have V1 := Lib.hid (show Hp W (vals (fun x => (psA ps x).1.1) (fun x => (psA ps x).2.length) (fun x => (psA ps x).1.2) (some ⟨gd, 0, none⟩) q e (idS q) :: (obox g1 nm A n c :: rowP ps)) W1 by
    have h := hV.obox_new nm A n c
    rw [← hW1, ← hg1] at h
    have h2 := Hp.front (l := [_]) h
    rw [← hdr_vals, ← hq, idS_map, hq]
    exact h2)
  have HW1 := Lib.hid hW1
  have HG1 := Lib.hid hg1
  have HC := Lib.hid (show St.CmpOk (fun x => (psA ps x).1.1) (fun x => (psA ps x).2.length) (fun x => (psA ps x).1.2) (fun x => cD L (psA ps x).2) q g1 gd q e W (obox g1 nm A n c :: rowP ps) from fun w' Z hp i k hi hk => by
    obtain ⟨p, hpp⟩ := get_at (L := ps) (k := i) (by omega)
    obtain ⟨r, hrr⟩ := get_at (L := ps) (k := k) (by omega)
    obtain ⟨r0, r1, r2⟩ := hp.obox_at (i := 1) rfl
    have cp := hp.cells (i := i + 2) (it := nums p.1.1 p.2.length p.1.2 (dI p.2)) (rowP_get hpp) (A := p.1.1) (c := p.1.2) rfl
    have cr := hp.cells (i := k + 2) (it := nums r.1.1 r.2.length r.1.2 (dI r.2)) (rowP_get hrr) (A := r.1.1) (c := r.1.2) rfl
    simp only [psA_at hpp, psA_at hrr]
    exact cmpD_any nm L A n c p.2 r.2 p.1.1 r.1.1 p.2.length p.1.2 r.2.length r.1.2 g1 w' hv hl (hA.below hp.below) (hP p (List.mem_of_getElem? hpp)).2 (hP r (List.mem_of_getElem? hrr)).2 rfl rfl (hP p (List.mem_of_getElem? hpp)).1 (hP r (List.mem_of_getElem? hrr)).1 cp cr r0 r1 r2)
  have HASC := Lib.hid hasc
  have HQ := Lib.hid hq
  clear hW1 hg1 hv hl hA hP hasc hV hq
  go_enter Tryz.func20, Tryz.ntmps20
  go_upto_region 1 with fail
  rw [← HG1.out, ← HW1.out]
  go_wp2_with fail
  refine (St.stableF_any (fun x => cD L (psA ps x).2) q g1 gd q e HC.out (by omega) (idS q) W1 (idS_len q) (idS_asc q) (fun x hx => idS_mem.1 hx) V1.out).mono ?_
  rintro r w3 ⟨rfl, Z, h1, h2, h3⟩
  have HM := Lib.hid (sort_map (L := L) HASC.out (by rw [HQ.out]; exact h1) h2)
  have V3 := Lib.hid (show Hp W (hdrP (some ⟨gd, 0, none⟩) q e (Z.map (psA ps)) :: rowP ps) w3 by
    rw [hdr_vals]
    exact Hp.out1 (a := [_]) h3)
  clear h1 h2 h3
  go_wp2_with fail
  exact bodyPost_end (results_none rfl _ _ _) rfl ⟨rfl, Z.map (psA ps), HM.out.1, HM.out.2, V3.out⟩
end Go.Proofs.YtjamfcihjendiaaGreat
