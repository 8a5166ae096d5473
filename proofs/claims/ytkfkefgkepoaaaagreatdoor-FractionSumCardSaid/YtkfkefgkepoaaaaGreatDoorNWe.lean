/- Contracts of leading and divideDigit, and of slices.Clone. -/
import Derived.Test.YtkfkefgkepoaaaaGreatDoorNWd
import Derived.Test.YtkfkefgkepoaaaaGreatDoorShelf
import Derived.Deep.AppendLies
namespace Go.Proofs.YtkfkefgkepoaaaaGreatDoor
open Go.RowKit
set_option linter.unusedVariables false
set_option maxRecDepth 100000

set_option maxHeartbeats 1000000 in
theorem leading_any (L : List Int) (m c cnt : Nat) (A : Option Addr) (w : World) (hm : L.length = m) (hm0 : 0 < m) (hm63 : m ≤ 100000) (hc : cnt ≤ 3) (hd : Dig L) (hA : IntsIn w A L) :
    Calls Tryz.prog 102 #[.slice A m c, .int .i64 cnt] w fun e w' => e = .returned (.int .i64 (leadF L m cnt)) ∧ w = w' := by
  obtain ⟨b, off, rfl, hb, hcc⟩ := hA (by omega)
  have HC := Lib.hid hcc
  have HM := Lib.hid hm
  have HD := Lib.hid hd
  clear hcc hm hd hA
  go_enter Tryz.func102, Tryz.ntmps102
  go_wp2
  go_loop [5, 6] (fun n i => ∃ j : Nat, j ≤ cnt ∧ n = .int .i64 (leadF L m j) ∧ i = .int .i64 ((m : Int) - 1 - (j : Int))) (fun _ i => (4 + (intOf i) - (m : Int)).toNat)
  case atStart => exact ⟨0, Nat.zero_le _, rfl, by simp⟩
  case round =>
    obtain ⟨j, hj, rfl, rfl⟩ := hrel
    obtain ⟨hb0, hb1⟩ := leadF_bd m j HD.out
    have hb2 : leadF L m j < 1000000000000 := by
      have := pw_mono (show j ≤ 3 by omega)
      have e : pw 3 = 1000000000000 := by simp [pw]
      omega
    obtain ⟨v, hv⟩ : ∃ v, v = leadF L m j := ⟨_, rfl⟩
    rw [← hv] at hb0 hb1 hb2 ⊢
    clear hb1
    by_cases hlt : j < cnt
    · have e1 : IntKind.i64.wrap (v * 10000) = v * 10000 := IntWalk.i64_in _ (by omega)
      by_cases hjm : j < m
      · have hcell := HC.out (m - 1 - j) (by rw [HM.out]; omega)
        have hy := HD.out.at (m - 1 - j)
        obtain ⟨y, hy'⟩ : ∃ y, y = L.getD (m - 1 - j) 0 := ⟨_, rfl⟩
        rw [← hy'] at hcell hy
        have HS := Lib.hid (show leadF L m (j + 1) = v * 10000 + y by unfold leadF; rw [if_pos hjm, ← hv, ← hy'])
        clear hv hy'
        have e3 : (0 : Int) ≤ (m : Int) - 1 - (j : Int) := by omega
        have e4 : ((m : Int) - 1 - (j : Int)).toNat = m - 1 - j := by omega
        have e5 : (m : Int) - 1 - (j : Int) < (m : Int) := by omega
        have e6 : IntKind.i64.wrap (v * 10000 + y) = v * 10000 + y := IntWalk.i64_in _ (by omega)
        go_wp2
        go_round
        case rel => exact ⟨j + 1, by omega, by rw [HS.out], by go_num⟩
        case measure => simp [intOf]; omega
      · have HS := Lib.hid (show leadF L m (j + 1) = v * 10000 by unfold leadF; rw [if_neg hjm, ← hv, Int.add_zero])
        clear hv
        have e3 : (m : Int) - 1 - (j : Int) < 0 := by omega
        go_wp2
        go_round
        case rel => exact ⟨j + 1, by omega, by rw [HS.out], by go_num⟩
        case measure => simp [intOf]; omega
    · obtain rfl : j = cnt := by omega
      have HV := Lib.hid hv
      clear hv
      go_wp2
      go_ret
      exact ⟨ret_int HV.out.symm, rfl⟩

/-- What divideDigit leaves. -/
def DigitPost (g off n : Nat) (x y : Int) (W : World) (e : Ending) (w' : World) : Prop :=
  e = .returned (.int .i64 (x / y)) ∧ ∃ D : List Int, D.length = n ∧ Dig D ∧ val D = x % y ∧ RowIs w' g off D ∧ Chg W w' g off (off + n)
theorem digit_post0 {g off n k : Nat} {U V D : List Int} {q x y : Int} {W w1 : World} (hk : n = k + 1) (hV : V.length = k) (hdV : Dig V) (hx : val U = x) (hy : val V = y) (h0 : 0 < y) (hq1 : x < (q + 1) * y)
    (hD : D.length = n) (hdD : Dig (D.take (n - 1))) (hval : val D = x - q * y) (hpos : 0 ≤ D.getD k 0) (hr : RowIs w1 g off D) (hc : Chg W w1 g off (off + n)) : DigitPost g off n x y W (.returned (.int .i64 q)) w1 := by
  subst hk
  have hv := val_last (L := D) (k := k) hD
  have h1 := val_nonneg hdD
  have h2 := Int.mul_nonneg (Int.le_of_lt (pw_pos k)) hpos
  have h3 := val_lt hdV
  rw [hV, hy] at h3
  rw [show k + 1 - 1 = k by omega] at hdD h1
  have e : (q + 1) * y = q * y + y := by grind
  have hlt : x - q * y < y := by omega
  have hge : 0 ≤ x - q * y := by omega
  obtain ⟨d1, d2⟩ := ediv_of h0 hge hlt
  refine ⟨by rw [d1], D, hD, dig_of_top hD hdD (by omega) (by omega), by rw [hval, d2], hr, hc⟩
theorem digit_post1 {g off n k : Nat} {V D D2 : List Int} {q x y : Int} {W w1 w2 : World} (hk : n = k + 1) (hV : V.length = k) (hdV : Dig V) (hy : val V = y) (h0 : 0 < y) (hq1 : (q - 1) * y ≤ x)
    (hD : D.length = n) (hdD : Dig (D.take (n - 1))) (hval : val D = x - q * y) (hneg : D.getD k 0 < 0) (hc : Chg W w1 g off (off + n))
    (hD2 : D2.length = n) (hdD2 : Dig (D2.take (n - 1))) (hval2 : val D2 = val D + 1 * y) (hr2 : RowIs w2 g off D2) (hc2 : Chg w1 w2 g off (off + n)) : DigitPost g off n x y W (.returned (.int .i64 (q - 1))) w2 := by
  subst hk
  have hv := val_last (L := D) (k := k) hD
  have h1 := val_lt hdD
  rw [show k + 1 - 1 = k by omega] at hdD h1 hdD2
  rw [List.length_take, Nat.min_eq_left (by omega)] at h1
  have h2 := Int.mul_le_mul_of_nonneg_left (show D.getD k 0 ≤ -1 by omega) (Int.le_of_lt (pw_pos k))
  have h3 := val_lt hdV
  rw [hV, hy] at h3
  have e : (q - 1) * y = q * y - y := by grind
  have hlt : x - (q - 1) * y < y := by omega
  have hge : 0 ≤ x - (q - 1) * y := by omega
  obtain ⟨d1, d2⟩ := ediv_of h0 hge hlt
  refine ⟨by rw [d1], D2, hD2, dig_of_top hD2 hdD2 (by omega) (by omega), by rw [hval2, d2]; omega, hr2, hc.trans hc2⟩
theorem dig_take_of {D : List Int} {n k : Nat} (h : Dig (D.take (n - 1))) (hk : k + 1 = n) : Dig (D.take k) := by rw [show k = n - 1 by omega]; exact h
set_option maxHeartbeats 1000000 in
theorem divideDigit_any (g off n k c cb : Nat) (U V : List Int) (x y : Int) (Ab : Option Addr) (W : World) (hU : U.length = n) (hk : k + 1 = n) (hk0 : 0 < k) (hnc : n ≤ c) (hn63 : n ≤ 100000) (hV : V.length = k)
    (hdU : Dig U) (hdV : Dig V) (hx : val U = x) (hy : val V = y) (htop : pw (k - 1) ≤ y) (hlt : x < 10000 * y) (hrow : RowIs W g off U) (hB : IntsLow W Ab V g) (hg : g < W.heap.size) :
    Calls Tryz.prog 87 #[.slice (some ⟨g, off, none⟩) n c, .slice Ab k cb] W (DigitPost g off n x y W) := by
  obtain ⟨T, hT⟩ : ∃ T, T = leadF U n 3 := ⟨_, rfl⟩
  obtain ⟨S, hS⟩ : ∃ S, S = leadF V k 2 := ⟨_, rfl⟩
  obtain ⟨q, hq⟩ : ∃ q, q = T / S := ⟨_, rfl⟩
  obtain ⟨g1, g2, q0, q1, s0⟩ := guess_digit (U := U) (V := V) (m := k) (q := q) (by omega) hV hk0 hdU hdV (by rw [hy]; exact htop) (by rw [hx, hy]; exact hlt) (by rw [hq, hT, hS, hk])
  rw [hx, hy] at g1
  rw [hx, hy] at g2
  rw [← hS] at s0
  have hy0 : 0 < y := by have := pw_pos (k - 1); omega
  obtain ⟨t0, t1⟩ := leadF_bd n 3 hdU
  have t2 : pw 3 = 1000000000000 := by simp [pw]
  rw [← hT] at t0 t1
  have hT63 : T < 1000000000000 := by omega
  have hS63 : S < 1000000000000 := by
    have := (leadF_bd k 2 hdV).2
    have t3 : pw 2 = 100000000 := by simp [pw]
    rw [← hS] at this; omega
  have hu := hdU.at k
  have HU := Lib.hid hU
  have HV := Lib.hid hV
  have HX := Lib.hid hx
  have HY := Lib.hid hy
  have HDU := Lib.hid hdU
  have HDV := Lib.hid hdV
  have HK := Lib.hid hk
  have HT := Lib.hid hT
  have HS := Lib.hid hS
  have HROW := Lib.hid hrow
  have HB := Lib.hid hB
  have HG1 := Lib.hid g1
  have HG2 := Lib.hid g2
  have HQ := Lib.hid hq
  have hkn : k < n := by omega
  clear hU hV hx hy hdU hdV hk hT hS hrow hB g1 g2 htop hlt t1 t2 hq
  go_enter Tryz.func87, Tryz.ntmps87
  go_wp2_with fail
  refine (leading_any U n c 3 _ _ HU.out (by omega) (by omega) (by omega) HDU.out (HROW.out.ints hg)).mono ?_
  rintro e w1 ⟨rfl, rfl⟩
  rw [← HT.out]
  go_wp2_with fail
  refine (leading_any V k cb 2 _ _ HV.out (by omega) (by omega) (by omega) HDV.out (HB.out.ins (by omega))).mono ?_
  rintro e w1 ⟨rfl, rfl⟩
  rw [← HS.out]
  go_wp2_with fail
  rw [← HQ.out]
  refine (takeTimes_any g off n k c k cb U V Ab q W HU.out HK.out hnc hn63 HV.out (Nat.le_refl _) q0 q1 (HDU.out.take _) HDV.out HROW.out HB.out hg (by omega) (by omega)).mono ?_
  rintro e w1 ⟨rfl, D, hD, hdD, hval, hr, hc, cc, hcc, c0, c1⟩
  rw [HX.out, HY.out] at hval
  rw [show n - 1 = k by have := HK.out; omega] at hcc
  obtain ⟨z, hz⟩ : ∃ z, z = D.getD k 0 := ⟨_, rfl⟩
  have hcell := (hr k (by rw [hD]; exact hkn)).1
  rw [← hz] at hcell
  have hz1 : -100000 ≤ z ∧ z ≤ 100000 := by omega
  have HZ := Lib.hid hz
  have HD := Lib.hid hD
  have HDD := Lib.hid hdD
  have HVAL := Lib.hid hval
  have HR := Lib.hid hr
  have HC := Lib.hid hc
  have hsz : g < w1.heap.size := by rw [hc.size]; exact hg
  have HB2 := Lib.hid (HB.out.chg hc (Nat.le_refl _))
  clear hz hD hdD hval hr hc hcc
  by_cases hneg : z < 0
  · go_wp2_with fail
    refine (addTimes_any g off n k c k cb D V Ab 1 w1 HD.out HK.out hnc hn63 HV.out (Nat.le_refl _) (by omega) (by omega) (dig_take_of HDD.out HK.out) HDV.out HR.out HB2.out hsz (by rw [← HZ.out]; exact hz1.1) (by rw [← HZ.out]; exact hz1.2)).mono ?_
    rintro e w2 ⟨rfl, D2, hD2, hdD2, hval2, hr2, hc2⟩
    rw [HY.out] at hval2
    have R := Lib.hid (digit_post1 HK.out.symm HV.out HDV.out HY.out hy0 HG2.out HD.out HDD.out HVAL.out (by rw [← HZ.out]; exact hneg) HC.out hD2 hdD2 hval2 hr2 hc2)
    clear hD2 hdD2 hval2 hr2 hc2
    go_wp2_with fail
    go_ret
    exact R.out
  · have R := Lib.hid (digit_post0 HK.out.symm HV.out HDV.out HX.out HY.out hy0 HG1.out HD.out HDD.out HVAL.out (by rw [← HZ.out]; omega) HR.out HC.out)
    go_wp2_with fail
    go_ret
    exact R.out

/-- What slices.Clone gives. -/
def ClonePost (L : List Int) (n : Nat) (W : World) (e : Ending) (w' : World) : Prop :=
  ∃ A c, e = .returned (.slice A n c) ∧ IntsIn w' A L ∧ n ≤ c ∧ c ≤ maxLen ∧ Below W.heap.size W w'
theorem own_ints {w : World} {B n : Nat} {v : Value} {L : List Int} (h : w.ownsRow B 3 1 v n (ints L)) : ∃ A c, v = .slice A n c ∧ IntsIn w A L ∧ n ≤ c ∧ c ≤ maxLen ∧ L.length = n := by
  have hl : L.length = n := by have := h.1; rw [ints_len] at this; omega
  rcases h.2 with ⟨rfl, rfl⟩ | ⟨g, cap, cur, rfl, hb, hh, hc, hm, hs, ht⟩
  · exact ⟨none, 0, rfl, fun h0 => by omega, Nat.le_refl _, Nat.zero_le _, hl⟩
  · refine ⟨_, _, rfl, fun h0 => ⟨g, 0, rfl, (Array.getElem?_eq_some_iff.1 hh).1, fun j hj => ?_⟩, hc, hm, hl⟩
    have := h.cells (g := g) rfl j (.int .i64 (L.getD j 0)) (by simp [ints, List.getD_eq_getElem?_getD, hj])
    rw [show (⟨g, 0, none⟩ : Addr).add j = ⟨g, 0 + j, none⟩ from by unfold Addr.add; split <;> simp_all] at this
    exact this
theorem clone_any (L : List Int) (n c : Nat) (A : Option Addr) (w : World) (hn : L.length = n) (hn63 : n ≤ 100000) (hA : IntsIn w A L) :
    Calls Tryz.prog 65 #[.slice A n c] w (ClonePost L n w) := by
  by_cases h0 : 0 < n
  · obtain ⟨b, off, rfl, hb, hc⟩ := hA (by omega)
    refine (Tryz.slices_Clone_int b off n c L w (by omega) (by omega) hc).mono ?_
    rintro e w' ⟨v', rfl, hown, _, hbel⟩
    rw [List.take_of_length_le (by omega)] at hown
    obtain ⟨A', c', rfl, h1, h2, h3, _⟩ := own_ints (L := L) hown
    exact ⟨A', c', rfl, h1, h2, h3, hbel⟩
  · obtain rfl : n = 0 := by omega
    obtain rfl : L = [] := List.eq_nil_of_length_eq_zero hn
    cases A with
    | none =>
      refine (Tryz.slices_Clone_int_nil 0 c w).mono ?_
      rintro e w' ⟨rfl, rfl⟩
      exact ⟨none, 0, rfl, IntsIn.nil _ _, Nat.le_refl _, Nat.zero_le _, Below.refl _ _⟩
    | some a =>
      refine (Tryz.slices_Clone_int_zero a c w).mono ?_
      rintro e w' ⟨v', rfl, hown, _, hbel⟩
      obtain ⟨A', c', rfl, h1, h2, h3, _⟩ := own_ints (L := []) hown
      exact ⟨A', c', rfl, h1, h2, h3, hbel⟩
end Go.Proofs.YtkfkefgkepoaaaaGreatDoor
