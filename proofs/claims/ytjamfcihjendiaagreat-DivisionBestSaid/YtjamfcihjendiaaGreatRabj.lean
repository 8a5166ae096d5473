/- Several texts in one: Sf. -/
import Derived.Test.YtjamfcihjendiaaGreatRabi
import Derived.Deep.RegionLaw
namespace Go.Proofs.YtjamfcihjendiaaGreat.St
open Go.RowKit
set_option linter.unusedVariables false
set_option linter.unusedSimpArgs false
set_option maxRecDepth 100000

set_option maxHeartbeats 128000000 in
theorem symGen_any {W : World} {l : List Itm} {va : Int → Option Addr} {vn vc : Int → Nat} (key : Int → Int) (N gb gd n c : Nat) (HC : CmpOk va vn vc key N gb gd n c W l) (hbig : n ≤ 1000000) (d : Nat) (P X Y S : List Int) (a m b : Nat) (w : World) (hd : b - a ≤ d + 1) (hP : P.length = a) (hX : a + X.length = m) (hY : m + Y.length = b) (hS : b + S.length = n) (ham : a < m) (hmb : m < b)
    (hsX : X.Pairwise (RL key)) (hsY : Y.Pairwise (RL key)) (hlt : ∀ x ∈ X, ∀ y ∈ Y, x < y) (hNX : ∀ x ∈ X, 0 ≤ x ∧ x < (N : Int)) (hNY : ∀ y ∈ Y, 0 ≤ y ∧ y < (N : Int)) (hV : Hp W (vals va vn vc (some ⟨gd, 0, none⟩) n c (P ++ X ++ (Y ++ S)) :: l) w) (h2X : 2 ≤ X.length) (h2Y : 2 ≤ Y.length) (ih : ∀ (P X Y S : List Int) (a m b : Nat) (w : World), b - a ≤ d → P.length = a → a + X.length = m → m + Y.length = b → b + S.length = n → a < m → m < b → X.Pairwise (RL key) → Y.Pairwise (RL key) → (∀ x ∈ X, ∀ y ∈ Y, x < y) → (∀ x ∈ X, 0 ≤ x ∧ x < (N : Int)) → (∀ y ∈ Y, 0 ≤ y ∧ y < (N : Int)) → Hp W (vals va vn vc (some ⟨gd, 0, none⟩) n c (P ++ X ++ (Y ++ S)) :: l) w → Calls Tryz.prog 79 #[.slice (some ⟨gd, 0, none⟩) n c, .int .i64 (a : Int), .int .i64 (m : Int), .int .i64 (b : Int), FVal gb] w fun e w' => e = .returned (.tuple #[]) ∧ ∃ Z, Mrg key X Y Z ∧ Hp W (vals va vn vc (some ⟨gd, 0, none⟩) n c (P ++ Z ++ S) :: l) w') :
    Calls Tryz.prog 79 #[.slice (some ⟨gd, 0, none⟩) n c, .int .i64 (a : Int), .int .i64 (m : Int), .int .i64 (b : Int), FVal gb] w fun e w' => e = .returned (.tuple #[]) ∧ ∃ Z, Mrg key X Y Z ∧ Hp W (vals va vn vc (some ⟨gd, 0, none⟩) n c (P ++ Z ++ S) :: l) w' := by
  have V0 := Lib.hid hV
  have HCC := Lib.hid HC
  have HP := Lib.hid hP
  have HX := Lib.hid hX
  have HY := Lib.hid hY
  have HS := Lib.hid hS
  have HSX := Lib.hid hsX
  have HSY := Lib.hid hsY
  have HLT := Lib.hid hlt
  have HIH := Lib.hid ih
  have HNX := Lib.hid (show ∀ t, t < X.length → ∃ q : Nat, X.getD t 0 = (q : Int) ∧ q < N from fun t ht => as_nat (hNX _ (getD_mem ht)))
  have HNY := Lib.hid (show ∀ t, t < Y.length → ∃ q : Nat, Y.getD t 0 = (q : Int) ∧ q < N from fun t ht => as_nat (hNY _ (getD_mem ht)))
  have HNX0 := Lib.hid hNX
  have HNY0 := Lib.hid hNY
  have hbn : b ≤ n := by omega
  have hXl1 : a + X.length ≤ m := by omega
  have hXl2 : m ≤ a + X.length := by omega
  have hYl1 : m + Y.length ≤ b := by omega
  have hYl2 : b ≤ m + Y.length := by omega
  clear hV hP hX hY hS hsX hsY hlt ih hNX hNY HC
  obtain ⟨dm, hdm⟩ : ∃ dm, dm = m - a := ⟨_, rfl⟩
  have h0 : IntKind.i64.wrap ((m : Int) - (a : Int)) = (dm : Int) := by rw [IntWalk.i64_in _ (by omega)]; omega
  have hdm1 : dm ≤ m - a := by omega
  have hdm2 : m - a ≤ dm := by omega
  clear hdm
  obtain ⟨L, hL⟩ : ∃ L, L = P ++ X ++ (Y ++ S) := ⟨_, rfl⟩
  have HLQ := Lib.hid hL
  have HGX := Lib.hid (show ∀ t, t < X.length → L[a + t]? = some (X.getD t 0) from fun t ht => by
    rw [hL, ← HP.out, List.append_assoc, List.getElem?_append_right (by omega), Nat.add_sub_cancel_left, List.getElem?_append_left ht, get_some ht])
  have HGY := Lib.hid (show ∀ t, t < Y.length → L[m + t]? = some (Y.getD t 0) from fun t ht => by
    rw [hL, ← HX.out, ← HP.out, List.getElem?_append_right (by rw [List.length_append]; omega), List.length_append, Nat.add_sub_cancel_left, List.getElem?_append_left ht, get_some ht])
  have V1 := Lib.hid (show Hp W (vals va vn vc (some ⟨gd, 0, none⟩) n c L :: l) w by rw [hL]; exact V0.out)
  clear hL V0
  go_enter Tryz.func79, Tryz.ntmps79
  have g0 : ((dm : Int) == 1) = false := beq_no (by omega)
  obtain ⟨db, hdb⟩ : ∃ db, db = b - m := ⟨_, rfl⟩
  have h1 : IntKind.i64.wrap ((b : Int) - (m : Int)) = (db : Int) := by rw [IntWalk.i64_in _ (by omega)]; omega
  have hdb1 : db ≤ b - m := by omega
  have hdb2 : b - m ≤ db := by omega
  clear hdb
  have hY1 : ¬ db ≤ 1 := by omega
  have g1 : ((db : Int) == 1) = false := beq_no (by omega)
  obtain ⟨sm, hsm⟩ : ∃ z0, z0 = a + b := ⟨_, rfl⟩
  obtain ⟨mid, hmid⟩ : ∃ z0, z0 = sm / 2 := ⟨_, rfl⟩
  have m1 : IntKind.i64.wrap (((a : Nat) : Int) + ((b : Nat) : Int)) = (sm : Int) := by rw [IntWalk.i64_in _ (by omega)]; omega
  have m2 : IntKind.u64.wrap (sm : Int) = (sm : Int) := IntWalk.u64_in _ (by omega)
  have m3 : IntKind.i64.wrap (mid : Int) = (mid : Int) := IntWalk.i64_in _ (by omega)
  have m4 : (sm : Int) / 2 = (mid : Int) := by omega
  have m5 : IntKind.u64.wrap (mid : Int) = (mid : Int) := IntWalk.u64_in _ (by omega)
  have hmid1 : 2 * mid ≤ a + b := by omega
  have hmid2 : a + b ≤ 2 * mid + 1 := by omega
  clear hsm hmid
  obtain ⟨nn, hnn⟩ : ∃ nn, nn = mid + m := ⟨_, rfl⟩
  have g2 : IntKind.i64.wrap ((mid : Int) + (m : Int)) = (nn : Int) := by rw [IntWalk.i64_in _ (by omega)]; omega
  have hnn1 : nn ≤ mid + m := by omega
  have hnn2 : mid + m ≤ nn := by omega
  clear hnn
  obtain ⟨sA, hsA⟩ : ∃ sA, sA = nn - b := ⟨_, rfl⟩
  have g3 : mid < m → IntKind.i64.wrap ((nn : Int) - (b : Int)) = (sA : Int) := fun h => by rw [IntWalk.i64_in _ (by omega)]; omega
  have hsA1 : mid < m → sA + b ≤ nn ∧ nn ≤ sA + b := fun h => by omega
  clear hsA
  go_upto_if 140 with fail
  go_cut [20, 21] (fun sv rv wx => ∃ s0 r0 : Nat, sv = .int .i64 (s0 : Int) ∧ rv = .int .i64 (r0 : Int) ∧ ((mid < m ∧ s0 + b ≤ nn ∧ nn ≤ s0 + b ∧ r0 ≤ mid ∧ mid ≤ r0) ∨ (m ≤ mid ∧ s0 ≤ a ∧ a ≤ s0 ∧ r0 ≤ m ∧ m ≤ r0)) ∧ Hp W (vals va vn vc (some ⟨gd, 0, none⟩) n c L :: l) wx)
  case first =>
    as_aux_lemma =>
      by_cases hmm : mid < m
      · have g4 := g3 hmm
        have h5 := hsA1 hmm
        clear g3 hsA1
        go_wp2_with fail
        go_meet
        exact ⟨sA, mid, rfl, rfl, .inl ⟨hmm, h5.1, h5.2, Nat.le_refl _, Nat.le_refl _⟩, V1.out⟩
      · clear g3 hsA1
        go_wp2_with fail
        go_meet
        exact ⟨a, m, rfl, rfl, .inr ⟨by omega, Nat.le_refl _, Nat.le_refl _, Nat.le_refl _, Nat.le_refl _⟩, V1.out⟩
  case rest =>
    clear g3 hsA1 V1 m1 m2 m3 m4 m5 h0 h1 g0 g1
    obtain ⟨s0, r0, rfl, rfl, hdom, hV⟩ := hcut
    have V1 := Lib.hid hV
    have HDOM := Lib.hid hdom
    have hs0a : a ≤ s0 := by rcases hdom with h | h <;> omega
    have hs0r : s0 ≤ r0 := by rcases hdom with h | h <;> omega
    have hr0m : r0 ≤ m := by rcases hdom with h | h <;> omega
    have hr0d : r0 ≤ mid := by rcases hdom with h | h <;> omega
    have hs0b : nn ≤ s0 + b := by rcases hdom with h | h <;> omega
    clear hV hdom
    obtain ⟨pp, hpp⟩ : ∃ pp, pp = nn - 1 := ⟨_, rfl⟩
    have g5 : IntKind.i64.wrap ((nn : Int) - 1) = (pp : Int) := by rw [IntWalk.i64_in _ (by omega)]; omega
    have hpp1 : pp + 1 ≤ nn := by omega
    have hpp2 : nn ≤ pp + 1 := by omega
    clear hpp
    go_wp2_with fail
    go_loopw [20, 21] (fun sv rv wr => ∃ s r : Nat, sv = .int .i64 (s : Int) ∧ rv = .int .i64 (r : Int) ∧ s0 ≤ s ∧ s ≤ r ∧ r ≤ r0 ∧ (∀ t, s0 ≤ t → t < s → key (X.getD (t - a) 0) ≤ key (Y.getD (pp - t - m) 0)) ∧ (∀ t, r ≤ t → t < r0 → key (Y.getD (pp - t - m) 0) < key (X.getD (t - a) 0)) ∧ Hp W (vals va vn vc (some ⟨gd, 0, none⟩) n c L :: l) wr) (fun sv rv _ => (intOf rv).toNat - (intOf sv).toNat)
    case atStart => exact ⟨s0, r0, rfl, rfl, Nat.le_refl _, hs0r, Nat.le_refl _, fun t h1 h2 => by omega, fun t h1 h2 => by omega, V1.out⟩
    case round =>
      clear V1 g5
      obtain ⟨s, r, rfl, rfl, hs0, hsr, hr0, hi1, hi2, hV⟩ := hrel
      obtain ⟨wi, rfl⟩ : ∃ wi : World, wi = wr := ⟨_, rfl⟩
      have V := Lib.hid hV
      have HI1 := Lib.hid hi1
      have HI2 := Lib.hid hi2
      clear hV hi1 hi2
      by_cases hlh : s < r
      case neg =>
        as_aux_lemma =>
          have hrs : r ≤ s := by omega
          obtain ⟨en, hen⟩ : ∃ en, en = nn - s := ⟨_, rfl⟩
          have g6 : IntKind.i64.wrap ((nn : Int) - (s : Int)) = (en : Int) := by rw [IntWalk.i64_in _ (by omega)]; omega
          have hen1 : en + s ≤ nn := by omega
          have hen2 : nn ≤ en + s := by omega
          clear hen
          obtain ⟨sX, hsX⟩ : ∃ sX, sX = s - a := ⟨_, rfl⟩
          obtain ⟨tY, htY⟩ : ∃ tY, tY = mid - s := ⟨_, rfl⟩
          have hsX1 : a + sX ≤ s := by omega
          have hsX2 : s ≤ a + sX := by omega
          have htY1 : s + tY ≤ mid := by omega
          have htY2 : mid ≤ s + tY := by omega
          have htY3 : m + tY ≤ en := by omega
          have htY4 : en ≤ m + tY := by omega
          clear hsX htY
          have HXl := Lib.hid (show X.length + a = m by have := HX.out; omega)
          have HYl := Lib.hid (show Y.length + m = b by have := HY.out; omega)
          have hsXl : sX ≤ X.length := by have := HXl.out; omega
          have htYl : tY ≤ Y.length := by have := HYl.out; omega
          have HA := Lib.hid (show 0 < sX → tY < Y.length → ¬ key (Y.getD tY 0) < key (X.getD (sX - 1) 0) from fun h1 h2 => by
            have h3 := HYl.out
            have h4 : s0 ≤ s - 1 := by rcases HDOM.out with h | h <;> omega
            have h5 := HI1.out (s - 1) h4 (by omega)
            rw [show pp - (s - 1) - m = tY by omega, show s - 1 - a = sX - 1 by omega] at h5
            omega)
          have HB := Lib.hid (show 0 < tY → sX < X.length → key (Y.getD (tY - 1) 0) < key (X.getD sX 0) from fun h1 h2 => by
            have h3 := HXl.out
            have h4 : s < r0 := by rcases HDOM.out with h | h <;> omega
            have h5 := HI2.out s (by omega) h4
            rwa [show pp - s - m = tY - 1 by omega, show s - a = sX by omega] at h5)
          have LX1 := Lib.hid (show (X.take sX).length = sX by rw [List.length_take]; omega)
          have LX2 := Lib.hid (show (X.drop sX).length + sX = X.length by rw [List.length_drop]; omega)
          have LY1 := Lib.hid (show (Y.take tY).length = tY by rw [List.length_take]; omega)
          have LY2 := Lib.hid (show (Y.drop tY).length + tY = Y.length by rw [List.length_drop]; omega)
          have EX := Lib.hid (List.take_append_drop sX X)
          have EY := Lib.hid (List.take_append_drop tY Y)
          have SX1 := Lib.hid (show (X.take sX).Pairwise (RL key) ∧ (X.drop sX).Pairwise (RL key) by
            have h := HSX.out
            rw [← EX.out] at h
            exact ⟨(List.pairwise_append.1 h).1, (List.pairwise_append.1 h).2.1⟩)
          have SY1 := Lib.hid (show (Y.take tY).Pairwise (RL key) ∧ (Y.drop tY).Pairwise (RL key) by
            have h := HSY.out
            rw [← EY.out] at h
            exact ⟨(List.pairwise_append.1 h).1, (List.pairwise_append.1 h).2.1⟩)
          obtain ⟨X1, hX1⟩ : ∃ X1, X1 = X.take sX := ⟨_, rfl⟩
          obtain ⟨X2, hX2⟩ : ∃ X2, X2 = X.drop sX := ⟨_, rfl⟩
          obtain ⟨Y1, hY1⟩ : ∃ Y1, Y1 = Y.take tY := ⟨_, rfl⟩
          obtain ⟨Y2, hY2⟩ : ∃ Y2, Y2 = Y.drop tY := ⟨_, rfl⟩
          have M1 := Lib.hid (show ∀ x ∈ X1, x ∈ X from fun x hx => List.mem_of_mem_take (by rw [hX1] at hx; exact hx))
          have M2 := Lib.hid (show ∀ x ∈ X2, x ∈ X from fun x hx => List.mem_of_mem_drop (by rw [hX2] at hx; exact hx))
          have M3 := Lib.hid (show ∀ x ∈ Y1, x ∈ Y from fun x hx => List.mem_of_mem_take (by rw [hY1] at hx; exact hx))
          have M4 := Lib.hid (show ∀ x ∈ Y2, x ∈ Y from fun x hx => List.mem_of_mem_drop (by rw [hY2] at hx; exact hx))
          have HTWO := Lib.hid (show ∀ Z1 Z2, Mrg key X1 Y1 Z1 → Mrg key X2 Y2 Z2 → Mrg key X Y (Z1 ++ Z2) from fun Z1 Z2 h1 h2 => mrg_two HSX.out HSY.out HLT.out hsXl htYl HA.out HB.out (by rw [← hX1, ← hY1]; exact h1) (by rw [← hX2, ← hY2]; exact h2))
          rw [← hX1] at LX1
          rw [← hX2] at LX2
          rw [← hY1] at LY1
          rw [← hY2] at LY2
          rw [← hX1, ← hX2] at EX SX1
          rw [← hY1, ← hY2] at EY SY1
          have V2 := Lib.hid (show Hp W (vals va vn vc (some ⟨gd, 0, none⟩) n c ((P ++ X1) ++ X2 ++ (Y1 ++ (Y2 ++ S))) :: l) wi by
            have h := V.out
            rw [HLQ.out, ← EX.out, ← EY.out] at h
            rw [show (P ++ X1) ++ X2 ++ (Y1 ++ (Y2 ++ S)) = P ++ (X1 ++ X2) ++ (Y1 ++ Y2 ++ S) by simp only [List.append_assoc]]
            exact h)
          clear hX1 hX2 hY1 hY2 V HA HB
          have HLS := Lib.hid (show en + (Y2 ++ S).length = n by rw [List.length_append]; have := LY2.out; have := HYl.out; have := HS.out; omega)
          go_upto_region 39 with fail
          clear g6
          go_cut [185] (fun bv wx => bv = .bool (decide (s < m ∧ m < en)) ∧ Hp W (vals va vn vc (some ⟨gd, 0, none⟩) n c ((P ++ X1) ++ X2 ++ (Y1 ++ (Y2 ++ S))) :: l) wx)
          case first =>
            as_aux_lemma =>
              by_cases q1 : s < m
              · by_cases q2 : m < en
                · go_wp2_with fail
                  go_meet
                  exact ⟨by rw [decide_eq_true (show s < m ∧ m < en from ⟨q1, q2⟩)], V2.out⟩
                · go_wp2_with fail
                  go_meet
                  exact ⟨by rw [decide_eq_false (show ¬ (s < m ∧ m < en) from fun h => q2 h.2)], V2.out⟩
              · go_wp2_with fail
                go_meet
                exact ⟨by rw [decide_eq_false (show ¬ (s < m ∧ m < en) from fun h => q1 h.1)], V2.out⟩
          case rest =>
          obtain ⟨rfl, hV⟩ := hcut
          obtain ⟨wa, rfl⟩ : ∃ wa : World, wa = wc := ⟨_, rfl⟩
          have V3 := Lib.hid hV
          clear hV V2
          go_upto_if 185 with fail
          go_cut [] (fun wx => Hp W (vals va vn vc (some ⟨gd, 0, none⟩) n c ((P ++ X1) ++ Y1 ++ (X2 ++ (Y2 ++ S))) :: l) wx)
          case first =>
            as_aux_lemma =>
              by_cases q : s < m ∧ m < en
              · rw [decide_eq_true q]
                obtain ⟨q1, q2⟩ := q
                go_wp2_with fail
                refine (rotate_any gd n c (FVal gb) (P ++ X1) X2 Y1 (Y2 ++ S) s m en wa (by rw [List.length_append, HP.out, LX1.out]; omega) (by have := LX2.out; have := HXl.out; omega) (by rw [LY1.out]; omega) HLS.out hbig q1 q2 V3.out).mono ?_
                rintro e w5 ⟨rfl, hp5⟩
                have V5 := Lib.hid hp5
                clear hp5
                go_wp2_with fail
                go_meet
                exact V5.out
              · rw [decide_eq_false q]
                have V5 := Lib.hid (show Hp W (vals va vn vc (some ⟨gd, 0, none⟩) n c ((P ++ X1) ++ Y1 ++ (X2 ++ (Y2 ++ S))) :: l) wa by
                  have h := V3.out
                  by_cases q1 : s < m
                  · have e : Y1 = [] := List.eq_nil_of_length_eq_zero (by rw [LY1.out]; omega)
                    rw [e] at h ⊢
                    rw [List.nil_append] at h
                    rw [List.append_nil]
                    rw [show P ++ X1 ++ (X2 ++ (Y2 ++ S)) = P ++ X1 ++ X2 ++ (Y2 ++ S) by simp only [List.append_assoc]]
                    exact h
                  · have e : X2 = [] := List.eq_nil_of_length_eq_zero (by have := LX2.out; have := HXl.out; omega)
                    rw [e] at h ⊢
                    rw [List.append_nil] at h
                    rw [List.nil_append]
                    rw [show P ++ X1 ++ Y1 ++ (Y2 ++ S) = P ++ X1 ++ (Y1 ++ (Y2 ++ S)) by simp only [List.append_assoc]]
                    exact h)
                go_wp2_with fail
                go_meet
                exact V5.out
          case rest =>
          obtain ⟨wb, rfl⟩ : ∃ wb : World, wb = wc := ⟨_, rfl⟩
          have V4 := Lib.hid hcut
          clear hcut V3
          go_upto_region 41 with fail
          go_cut [199] (fun bv wx => bv = .bool (decide (a < s ∧ s < mid)) ∧ Hp W (vals va vn vc (some ⟨gd, 0, none⟩) n c ((P ++ X1) ++ Y1 ++ (X2 ++ (Y2 ++ S))) :: l) wx)
          case first =>
            as_aux_lemma =>
              by_cases q1 : a < s
              · by_cases q2 : s < mid
                · go_wp2_with fail
                  go_meet
                  exact ⟨by rw [decide_eq_true (show a < s ∧ s < mid from ⟨q1, q2⟩)], V4.out⟩
                · go_wp2_with fail
                  go_meet
                  exact ⟨by rw [decide_eq_false (show ¬ (a < s ∧ s < mid) from fun h => q2 h.2)], V4.out⟩
              · go_wp2_with fail
                go_meet
                exact ⟨by rw [decide_eq_false (show ¬ (a < s ∧ s < mid) from fun h => q1 h.1)], V4.out⟩
          case rest =>
          obtain ⟨rfl, hV⟩ := hcut
          obtain ⟨wd, rfl⟩ : ∃ wd : World, wd = wc := ⟨_, rfl⟩
          have V5 := Lib.hid hV
          clear hV V4
          go_upto_if 199 with fail
          go_cut [] (fun wx => ∃ Z1, Mrg key X1 Y1 Z1 ∧ Hp W (vals va vn vc (some ⟨gd, 0, none⟩) n c (P ++ Z1 ++ (X2 ++ (Y2 ++ S))) :: l) wx)
          case first =>
            as_aux_lemma =>
              by_cases q : a < s ∧ s < mid
              · rw [decide_eq_true q]
                obtain ⟨q1, q2⟩ := q
                go_wp2_with fail
                refine (HIH.out P X1 Y1 (X2 ++ (Y2 ++ S)) a s mid wd (by omega) HP.out (by rw [LX1.out]; omega) (by rw [LY1.out]; omega) (by rw [List.length_append]; have := HLS.out; have := LX2.out; have := HXl.out; omega) q1 q2 SX1.out.1 SY1.out.1 (fun x hx y hy => HLT.out x (M1.out x hx) y (M3.out y hy)) (fun x hx => HNX0.out x (M1.out x hx)) (fun y hy => HNY0.out y (M3.out y hy)) (by
                  have h := V5.out
                  rw [show P ++ X1 ++ (Y1 ++ (X2 ++ (Y2 ++ S))) = P ++ X1 ++ Y1 ++ (X2 ++ (Y2 ++ S)) by simp only [List.append_assoc]]
                  exact h)).mono ?_
                rintro e w5 ⟨rfl, Z1, hm1, hp5⟩
                have V6 := Lib.hid hp5
                have HM1 := Lib.hid hm1
                clear hp5 hm1
                go_wp2_with fail
                go_meet
                exact ⟨Z1, HM1.out, V6.out⟩
              · rw [decide_eq_false q]
                have V6 := Lib.hid (show ∃ Z1, Mrg key X1 Y1 Z1 ∧ Hp W (vals va vn vc (some ⟨gd, 0, none⟩) n c (P ++ Z1 ++ (X2 ++ (Y2 ++ S))) :: l) wd by
                  have h := V5.out
                  by_cases q1 : a < s
                  · have e : Y1 = [] := List.eq_nil_of_length_eq_zero (by rw [LY1.out]; omega)
                    rw [e] at h ⊢
                    rw [List.append_nil] at h
                    exact ⟨X1, mrg_left SX1.out.1, h⟩
                  · have e : X1 = [] := List.eq_nil_of_length_eq_zero (by rw [LX1.out]; omega)
                    rw [e] at h ⊢
                    rw [List.append_nil] at h
                    exact ⟨Y1, mrg_right SY1.out.1, h⟩)
                go_wp2_with fail
                go_meet
                exact V6.out
          case rest =>
          obtain ⟨Z1, hm1, hV⟩ := hcut
          obtain ⟨we, rfl⟩ : ∃ we : World, we = wc := ⟨_, rfl⟩
          have V7 := Lib.hid hV
          have HM1 := Lib.hid hm1
          have HZ1 := Lib.hid (show Z1.length = sX + tY by rw [hm1.len, LX1.out, LY1.out])
          clear hV hm1 V5
          go_upto_region 43 with fail
          go_cut [213] (fun bv wx => bv = .bool (decide (mid < en ∧ en < b)) ∧ Hp W (vals va vn vc (some ⟨gd, 0, none⟩) n c (P ++ Z1 ++ (X2 ++ (Y2 ++ S))) :: l) wx)
          case first =>
            as_aux_lemma =>
              by_cases q1 : mid < en
              · by_cases q2 : en < b
                · go_wp2_with fail
                  go_meet
                  exact ⟨by rw [decide_eq_true (show mid < en ∧ en < b from ⟨q1, q2⟩)], V7.out⟩
                · go_wp2_with fail
                  go_meet
                  exact ⟨by rw [decide_eq_false (show ¬ (mid < en ∧ en < b) from fun h => q2 h.2)], V7.out⟩
              · go_wp2_with fail
                go_meet
                exact ⟨by rw [decide_eq_false (show ¬ (mid < en ∧ en < b) from fun h => q1 h.1)], V7.out⟩
          case rest =>
          obtain ⟨rfl, hV⟩ := hcut
          obtain ⟨wf, rfl⟩ : ∃ wf : World, wf = wc := ⟨_, rfl⟩
          have V8 := Lib.hid hV
          clear hV V7
          by_cases q : mid < en ∧ en < b
          · rw [decide_eq_true q]
            obtain ⟨q1, q2⟩ := q
            go_wp2_with fail
            refine (HIH.out (P ++ Z1) X2 Y2 S mid en b wf (by omega) (by rw [List.length_append, HP.out, HZ1.out]; omega) (by have := LX2.out; have := HXl.out; omega) (by have := LY2.out; have := HYl.out; omega) HS.out q1 q2 SX1.out.2 SY1.out.2 (fun x hx y hy => HLT.out x (M2.out x hx) y (M4.out y hy)) (fun x hx => HNX0.out x (M2.out x hx)) (fun y hy => HNY0.out y (M4.out y hy)) (by rw [List.append_assoc (P ++ Z1) X2]; exact V8.out)).mono ?_
            rintro e w5 ⟨rfl, Z2, hm2, hp5⟩
            have V9 := Lib.hid hp5
            have HM2 := Lib.hid hm2
            clear hp5 hm2
            go_wp2_with fail
            exact bodyPost_end (results_none rfl _ _ _) rfl ⟨rfl, Z1 ++ Z2, HTWO.out Z1 Z2 HM1.out HM2.out, by rw [← List.append_assoc P Z1 Z2]; exact V9.out⟩
          · rw [decide_eq_false q]
            have V9 := Lib.hid (show ∃ Z2, Mrg key X2 Y2 Z2 ∧ Hp W (vals va vn vc (some ⟨gd, 0, none⟩) n c (P ++ Z1 ++ (Z2 ++ S)) :: l) wf by
              have h := V8.out
              by_cases q1 : mid < en
              · have e : Y2 = [] := List.eq_nil_of_length_eq_zero (by have := LY2.out; have := HYl.out; omega)
                rw [e] at h ⊢
                rw [List.nil_append] at h
                exact ⟨X2, mrg_left SX1.out.2, h⟩
              · have e : X2 = [] := List.eq_nil_of_length_eq_zero (by have := LX2.out; have := HXl.out; omega)
                rw [e] at h ⊢
                rw [List.nil_append] at h
                exact ⟨Y2, mrg_right SY1.out.2, h⟩)
            go_wp2_with fail
            refine bodyPost_end (results_none rfl _ _ _) rfl ?_
            obtain ⟨Z2, h2, h3⟩ := V9.out
            refine ⟨rfl, Z1 ++ Z2, HTWO.out Z1 Z2 HM1.out h2, ?_⟩
            rw [show P ++ (Z1 ++ Z2) ++ S = P ++ Z1 ++ (Z2 ++ S) by simp only [List.append_assoc]]
            exact h3
      obtain ⟨sm, hsm⟩ : ∃ z0, z0 = s + r := ⟨_, rfl⟩
      obtain ⟨h, hh⟩ : ∃ z0, z0 = sm / 2 := ⟨_, rfl⟩
      have m1 : IntKind.i64.wrap (((s : Nat) : Int) + ((r : Nat) : Int)) = (sm : Int) := by rw [IntWalk.i64_in _ (by omega)]; omega
      have m2 : IntKind.u64.wrap (sm : Int) = (sm : Int) := IntWalk.u64_in _ (by omega)
      have m3 : IntKind.i64.wrap (h : Int) = (h : Int) := IntWalk.i64_in _ (by omega)
      have m4 : (sm : Int) / 2 = (h : Int) := by omega
      have m5 : IntKind.u64.wrap (h : Int) = (h : Int) := IntWalk.u64_in _ (by omega)
      have hh1 : 2 * h ≤ s + r := by omega
      have hh2 : s + r ≤ 2 * h + 1 := by omega
      clear hsm hh
      obtain ⟨pc, hpc⟩ : ∃ pc, pc = pp - h := ⟨_, rfl⟩
      have g7 : IntKind.i64.wrap ((pp : Int) - (h : Int)) = (pc : Int) := by rw [IntWalk.i64_in _ (by omega)]; omega
      have hpc1 : pc + h ≤ pp := by omega
      have hpc2 : pp ≤ pc + h := by omega
      clear hpc
      obtain ⟨u, hu⟩ : ∃ u, u = h - a := ⟨_, rfl⟩
      have hu1 : a + u ≤ h := by omega
      have hu2 : h ≤ a + u := by omega
      have huX : u < X.length := by have := HX.out; omega
      obtain ⟨v, hv⟩ : ∃ v, v = pc - m := ⟨_, rfl⟩
      have hv1 : m + v ≤ pc := by omega
      have hv2 : pc ≤ m + v := by omega
      have hvY : v < Y.length := by have := HY.out; omega
      have hhn : h < n := by omega
      have hpn : pc < n := by have := HY.out; omega
      clear hu hv
      obtain ⟨xq, hxq, hxN⟩ := HNX.out u huX
      have HXQ := Lib.hid hxq
      have HXH := Lib.hid (show L[h]? = some (xq : Int) by have h1 := HGX.out u huX; rw [hxq, show a + u = h by omega] at h1; exact h1)
      obtain ⟨yq, hyq, hyN⟩ := HNY.out v hvY
      have HYQ := Lib.hid hyq
      have HYH := Lib.hid (show L[pc]? = some (yq : Int) by have h1 := HGY.out v hvY; rw [hyq, show m + v = pc by omega] at h1; exact h1)
      have hw9 : IntKind.i64.wrap ((h : Int) + 1) = ((h + 1 : Nat) : Int) := by rw [IntWalk.i64_in _ (by omega)]; omega
      clear hxq hyq
      obtain ⟨c0, _, cb⟩ := V.out.val_get (i := 0) rfl HYH.out
      obtain ⟨c1, _, _⟩ := V.out.val_get (i := 0) rfl HXH.out
      go_upto_region 35 with fail
      have hKp : Keep [(⟨gd, pc, none⟩, .slice (va (yq : Int)) (vn (yq : Int)) (vc (yq : Int))), (⟨gd, h, none⟩, .slice (va (xq : Int)) (vn (xq : Int)) (vc (xq : Int)))] wi := List.forall_mem_cons.2 ⟨⟨c0, cb⟩, List.forall_mem_cons.2 ⟨⟨c1, cb⟩, fun _ h => by simp at h⟩⟩
      refine wp_region_held_drew (S := Keep _) (by kernel_rfl) hKp.drew (fun hHeld => ?_)
      have Vd := Lib.hid (V.out.go (bdrew _))
      refine tk 0 ?_ rfl ?_ ?_; rotate_left; focus (intro w hSw; clear hSw; go_simp; try (with_reducible rfl))
      try simp only [Act.put, sA, sZ, sS]
      refine tk 1 ?_ rfl ?_ ?_; rotate_left; focus (intro w hSw; clear hSw; go_simp; try (with_reducible rfl))
      try simp only [Act.put, sA, sZ, sS]
      refine tk 2 ?_ rfl ?_ ?_; rotate_left; focus (intro w hSw; clear hSw; go_simp; try (with_reducible rfl))
      try simp only [Act.put, sA, sZ, sS]
      refine tk 3 ?_ rfl ?_ ?_; rotate_left; focus (intro w hSw; clear hSw; go_simp; try (with_reducible rfl))
      try simp only [Act.put, sA, sZ, sS]
      refine tk 4 ?_ rfl ?_ ?_; rotate_left; focus (intro w hSw; clear hSw; go_simp; try (with_reducible rfl))
      try simp only [Act.put, sA, sZ, sS]
      refine tk 5 ?_ rfl ?_ ?_; rotate_left; focus (intro w hSw; clear hSw; go_simp; try (with_reducible rfl))
      try simp only [Act.put, sA, sZ, sS]
      refine tk 6 ?_ rfl ?_ ?_; rotate_left
      · intro wl hSw
        have hSw : Keep _ wl := hSw
        have k0 : wl.cell? ⟨gd, pc, none⟩ = some (.slice (va (yq : Int)) (vn (yq : Int)) (vc (yq : Int))) := (hSw _ (.head _)).1
        clear hSw
        go_simp
        try (with_reducible rfl)
      try simp only [Act.put, sA, sZ, sS]
      refine tk 7 ?_ rfl ?_ ?_; rotate_left; focus (intro w hSw; clear hSw; go_simp; try (with_reducible rfl))
      try simp only [Act.put, sA, sZ, sS]
      refine tk 8 ?_ rfl ?_ ?_; rotate_left; focus (intro w hSw; clear hSw; go_simp; try (with_reducible rfl))
      try simp only [Act.put, sA, sZ, sS]
      refine tk 9 ?_ rfl ?_ ?_; rotate_left; focus (intro w hSw; clear hSw; go_simp; try (with_reducible rfl))
      try simp only [Act.put, sA, sZ, sS]
      refine tk 10 ?_ rfl ?_ ?_; rotate_left
      · intro wl hSw
        have hSw : Keep _ wl := hSw
        have k0 : wl.cell? ⟨gd, h, none⟩ = some (.slice (va (xq : Int)) (vn (xq : Int)) (vc (xq : Int))) := (hSw _ (.tail _ (.head _))).1
        clear hSw
        go_simp
        try (with_reducible rfl)
      try simp only [Act.put, sA, sZ, sS]
      refine wpAnyH_ready (rs := [11]) (by kernel_rfl) (by simp) ?_
      refine AllReadyH.cons (List.getElem?_toArray.trans rfl) (fun K hK => ?_) AllReadyH.nil
      go_simp
      refine (HCC.out _ _ Vd.out yq xq (by omega) (by omega)).mono ?_
      rintro e w4 ⟨z, rfl, hz, b4⟩
      try go_wp2_with fail
      have HZZ := Lib.hid hz
      have VC := Lib.hid (Vd.out.go b4)
      clear hz
      refine hK.out _ _ (hHeld.go b4) (fun hHeld => ?_)
      clear hK K
      try simp only [Act.put, sA, sZ, sS]
      refine tk 12 ?_ rfl ?_ ?_; rotate_left; focus (intro w hSw; clear hSw; go_simp; try (with_reducible rfl))
      try simp only [Act.put, sA, sZ, sS]
      refine tk 13 ?_ rfl ?_ ?_; rotate_left; focus (intro w hSw; clear hSw; go_simp; try (with_reducible rfl))
      try simp only [Act.put, sA, sZ, sS]
      refine wpAnyH_done (by kernel_rfl) ?_ _
      clear hKp hHeld c0 c1 cb m1 m2 m3 m4 m5
      have VN := Lib.hid (show Hp W (vals va vn vc (some ⟨gd, 0, none⟩) n c L :: l) w4 from VC.out)
      by_cases hz : z < 0
      case pos =>
        rw [decide_eq_true hz, show (!true) = false from rfl]
        have HN2 := Lib.hid (show ∀ t, h ≤ t → t < r0 → key (Y.getD (pp - t - m) 0) < key (X.getD (t - a) 0) from fun t h1 h2 => by
          have h3 := HX.out
          have h5 := pw_le HSX.out (show u ≤ t - a by omega) (by omega)
          have h6 := pw_le HSY.out (show pp - t - m ≤ v by omega) hvY
          have h4 := HZZ.out.1 hz
          rw [HXQ.out] at h5
          rw [HYQ.out] at h6
          omega)
        clear VC V
        go_wp2_with fail
        go_roundw
        case rel => exact ⟨s, h, by first | go_num | exact congrArg (Value.int .i64) (by omega), by first | go_num | exact congrArg (Value.int .i64) (by omega), by omega, by omega, by omega, HI1.out, HN2.out, VN.out⟩
        case measure => simp [intOf]; omega
      case neg =>
        as_aux_lemma =>
          rw [decide_eq_false hz, show (!false) = true from rfl]
          have HN1 := Lib.hid (show ∀ t, s0 ≤ t → t < h + 1 → key (X.getD (t - a) 0) ≤ key (Y.getD (pp - t - m) 0) from fun t h1 h2 => by
            have h3 := HY.out
            have h5 := pw_le HSX.out (show t - a ≤ u by omega) huX
            have h6 := pw_le HSY.out (show v ≤ pp - t - m by omega) (by omega)
            have h4 : ¬ key (yq : Int) < key (xq : Int) := fun h => hz (HZZ.out.2 h)
            rw [HXQ.out] at h5
            rw [HYQ.out] at h6
            omega)
          clear VC V
          go_wp2_with fail
          go_roundw
          case rel => exact ⟨h + 1, r, by first | go_num | exact congrArg (Value.int .i64) (by omega), by first | go_num | exact congrArg (Value.int .i64) (by omega), by omega, by omega, by omega, HN1.out, HI2.out, VN.out⟩
          case measure => simp [intOf]; omega
theorem symMerge_any {W : World} {l : List Itm} {va : Int → Option Addr} {vn vc : Int → Nat} (key : Int → Int) (N gb gd n c : Nat) (HC : CmpOk va vn vc key N gb gd n c W l) (hbig : n ≤ 1000000) : ∀ (d : Nat), ∀ (P X Y S : List Int) (a m b : Nat) (w : World), b - a ≤ d → P.length = a → a + X.length = m → m + Y.length = b → b + S.length = n → a < m → m < b → X.Pairwise (RL key) → Y.Pairwise (RL key) → (∀ x ∈ X, ∀ y ∈ Y, x < y) → (∀ x ∈ X, 0 ≤ x ∧ x < (N : Int)) → (∀ y ∈ Y, 0 ≤ y ∧ y < (N : Int)) → Hp W (vals va vn vc (some ⟨gd, 0, none⟩) n c (P ++ X ++ (Y ++ S)) :: l) w → Calls Tryz.prog 79 #[.slice (some ⟨gd, 0, none⟩) n c, .int .i64 (a : Int), .int .i64 (m : Int), .int .i64 (b : Int), FVal gb] w fun e w' => e = .returned (.tuple #[]) ∧ ∃ Z, Mrg key X Y Z ∧ Hp W (vals va vn vc (some ⟨gd, 0, none⟩) n c (P ++ Z ++ S) :: l) w' := by
  intro d
  induction d with
  | zero => intro P X Y S a m b w h _ _ _ _ h1 h2; omega
  | succ d ih =>
    intro P X Y S a m b w hd hP hX hY hS ham hmb hsX hsY hlt hNX hNY hV
    by_cases h1 : X.length = 1
    · exact symLeft_any key N gb gd n c HC hbig d P X Y S a m b w hd hP hX hY hS ham hmb hsX hsY hlt hNX hNY hV h1
    · by_cases h2 : Y.length = 1
      · exact symRight_any key N gb gd n c HC hbig d P X Y S a m b w hd hP hX hY hS ham hmb hsX hsY hlt hNX hNY hV (by omega) h2
      · exact symGen_any key N gb gd n c HC hbig d P X Y S a m b w hd hP hX hY hS ham hmb hsX hsY hlt hNX hNY hV (by omega) (by omega) ih
end Go.Proofs.YtjamfcihjendiaaGreat.St
