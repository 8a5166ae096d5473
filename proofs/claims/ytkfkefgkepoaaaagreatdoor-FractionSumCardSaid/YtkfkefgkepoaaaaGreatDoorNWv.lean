/- Contract of the reference's times. -/
import Derived.Test.YtkfkefgkepoaaaaGreatDoorNWu
namespace Go.Proofs.YtkfkefgkepoaaaaGreatDoor
open Go.RowKit
set_option linter.unusedVariables false
set_option maxRecDepth 100000

theorem times_end {g i n k nb : Nat} {A0 Lb : List Int} {t : Int} {W wr : World} (h : AddSt g i n A0 Lb t W k 0 wr) (hk : nb ≤ k) (hkn : k ≤ n) (hb : Lb.length = nb) (ha : A0.length = n) (hd : Dig A0) :
    ∃ S : List Int, S.length = n ∧ Dig S ∧ val S = val A0 + t * val Lb ∧ RowIs wr g i S ∧ Chg W wr g i (i + n) := by
  obtain ⟨D, hn, hr, hdD, hv, _, _, hrow, hch⟩ := h
  have e : D.drop k = A0.drop k := by
    apply List.ext_getElem (by simp; omega)
    intro j h1 h2
    have := hr (k + j) (by omega)
    simp at h1 h2
    rw [getD_lt (by omega), getD_lt (by omega)] at this
    simpa using this
  refine ⟨D, hn, ?_, ?_, hrow, hch⟩
  · rw [← List.take_append_drop k D, e]
    exact Dig.append.2 ⟨hdD, hd.drop k⟩
  · rw [take_all_val (L := Lb) (by omega), Int.zero_mul] at hv
    rw [val_take_drop D k (by omega), val_take_drop A0 k (by omega), e]
    have : val (D.take k) = val (A0.take k) + t * val Lb := by omega
    rw [this]; grind
theorem times_zero {g i n nb : Nat} {A0 Lb : List Int} {t c : Int} {W wr : World} (h : AddSt g i n A0 Lb t W (nb + 1) c wr) (hb : Lb.length = nb) (hdb : Dig Lb) (ha : Dig A0) (hn : nb + 1 ≤ A0.length) (t0 : 0 ≤ t) (t1 : t ≤ 9999) (hv0 : val A0 < pw nb) : c = 0 := by
  obtain ⟨D, _, _, hdD, hv, c0, _, _, _⟩ := h
  rw [take_all_val (L := Lb) (by omega), pw_succ] at hv
  have b1 := val_lt hdb
  have b0 := val_nonneg hdb
  rw [hb] at b1
  have d0 := val_nonneg hdD
  have h1 := val_take_drop A0 (nb + 1) hn
  have h2 := Int.mul_nonneg (Int.le_of_lt (pw_pos (nb + 1))) (val_nonneg (ha.drop (nb + 1)))
  have h3 := Int.mul_le_mul_of_nonneg_right t1 b0
  have p := pw_pos nb
  by_cases hc : c ≤ 0
  · omega
  · have h4 := Int.mul_le_mul_of_nonneg_right (show 1 ≤ c by omega) (show 0 ≤ 10000 * pw nb by omega)
    omega
theorem val_pad (L : List Int) : val (L ++ [0]) = val L := by rw [val_append]; simp [val]
theorem times_small {i nb : Nat} {D La Lb : List Int} (hdl : i + (nb + 2) ≤ D.length) (hD : Dig D) (hv : val D = val (Lb ++ [0]) * val (La.take i)) (hlb : Lb.length = nb) (hi : i ≤ La.length) (hda : Dig La) (hdb : Dig Lb) : val (sub D i (nb + 2)) < pw nb := by
  rw [val_pad] at hv
  have b1 := val_lt hdb
  have b0 := val_nonneg hdb
  rw [hlb] at b1
  have b2 := val_lt (hda.take i)
  rw [List.length_take, Nat.min_eq_left hi] at b2
  have b3 := val_nonneg (hda.take i)
  have p1 := pw_pos nb
  have hlt : val D < pw nb * pw i := by
    rw [hv]
    have x1 := Int.mul_le_mul_of_nonneg_right (show val Lb ≤ pw nb - 1 by omega) b3
    have x2 := Int.mul_lt_mul_of_pos_left b2 p1
    have x3 : (pw nb - 1) * val (La.take i) = pw nb * val (La.take i) - val (La.take i) := by grind
    omega
  have s1 := val_drop_lt hD (by omega) hlt
  have s2 := val_sub_le (n := nb + 2) hD hdl
  omega
set_option maxHeartbeats 1000000 in
theorem rtimes_any (na ca nb cb : Nat) (La Lb : List Int) (Aa Ab : Option Addr) (W : World) (ha : La.length = na) (hb : Lb.length = nb) (hna : na ≤ 10000) (hnb : nb ≤ 10000) (hda : Dig La) (hdb : Dig Lb)
    (hA : IntsIn W Aa La) (hB : IntsIn W Ab Lb) :
    Calls Tryz.prog 78 #[.slice Aa na ca, .slice Ab nb cb] W (Gives (val La * val Lb) W) := by
  have HA := Lib.hid hA
  have HB := Lib.hid hB
  have HLA := Lib.hid ha
  have HLB := Lib.hid hb
  have HDA := Lib.hid hda
  have HDB := Lib.hid hdb
  clear hA hB ha hb hda hdb
  obtain ⟨M, hM⟩ : ∃ M, M = nb + 1 + na := ⟨_, rfl⟩
  have hMn : M ≤ 20001 := by omega
  have HM := Lib.hid hM
  have hmk := make_eq (M : Int) M rfl (by omega)
  have e1 : IntKind.i64.wrap ((na : Int) + (nb : Int)) = (na : Int) + (nb : Int) := IntWalk.i64_in _ (by omega)
  have e2 : IntKind.i64.wrap ((na : Int) + (nb : Int) + 1) = (M : Int) := by (rw [IntWalk.i64_in _ (by omega)]; omega)
  have HZ := Lib.hid (mul_zero W (nb + 1) na (Lb ++ [0]) La)
  rw [← hM] at HZ
  have mb : nb ≤ maxLen := by unfold maxLen; omega
  clear hM
  go_enter Tryz.func78, Tryz.ntmps78
  go_wp2
  clear e1 e2
  go_loopw [6] (fun i wr => ∃ k : Nat, k ≤ na ∧ i = .int .i64 (k : Int) ∧ MulSt W.heap.size (nb + 1) na (Lb ++ [0]) La W k wr) (fun i _ => na - (intOf i).toNat)
  case atStart => exact ⟨0, Nat.zero_le _, rfl, HZ.out⟩
  case round =>
    obtain ⟨i, hi, rfl, hst⟩ := hrel
    have HST := Lib.hid hst
    clear hst
    by_cases hlt : i < na
    · obtain ⟨D, hD, hdD, hvD, hrD, hbD, hgD⟩ := HST.out
      obtain ⟨b, off, rfl, hbb, hcc⟩ := HA.out (by rw [HLA.out]; omega)
      have hcell := hcc i (by rw [HLA.out]; exact hlt)
      clear hcc
      obtain ⟨d, hd⟩ : ∃ d, d = La.getD i 0 := ⟨_, rfl⟩
      obtain ⟨hd0, hd1⟩ : 0 ≤ d ∧ d < 10000 := by rw [hd]; exact HDA.out.at i
      rw [← hd] at hcell
      have HC := Lib.hid hcell
      have HDd := Lib.hid hd
      have hiM : i + (nb + 2) ≤ M := by have := HM.out; omega
      have hDl : i + (nb + 2) ≤ D.length := by rw [hD, ← HM.out]; exact hiM
      have HR := Lib.hid (row_sub hrD hDl)
      have HBW := Lib.hid hbD
      have HG := Lib.hid hgD
      have HSL := Lib.hid (sub_len hDl)
      have HDS := Lib.hid (dig_sub hdD i (nb + 2))
      have HSM := Lib.hid (times_small hDl hdD hvD HLB.out (by rw [HLA.out]; omega) HDA.out HDB.out)
      have HDD := Lib.hid hD
      have HDG := Lib.hid hdD
      have HV := Lib.hid hvD
      have HRD := Lib.hid hrD
      clear hD hdD hvD hrD hbD hd hcell hgD hDl
      obtain ⟨wo, rfl⟩ : ∃ wo : World, wo = wr := ⟨_, rfl⟩
      go_wp2
      go_loopw [7, 8] (fun c kv wr => ∃ (k : Nat) (x : Int), k ≤ nb + 1 ∧ kv = .int .i64 (k : Int) ∧ c = .int .i64 x ∧ (k = nb + 1 → x = 0) ∧ AddSt W.heap.size i (nb + 2) (sub D i (nb + 2)) Lb d wo k x wr) (fun _ kv _ => nb + 2 - (intOf kv).toNat)
      case atStart => exact ⟨0, 0, Nat.zero_le _, rfl, rfl, fun _ => rfl, addSt_zero HR.out HSL.out hd0⟩
      case round =>
        obtain ⟨k, x, hk, rfl, rfl, hkx, hst⟩ := hrel
        have HKX := Lib.hid hkx
        have HST2 := Lib.hid hst
        clear hkx
        by_cases hgo : k < nb ∨ (nb ≤ k ∧ k ≤ nb ∧ 0 < x)
        · have hkn : k < nb + 1 := by omega
          obtain ⟨E, hE, hr, hdE, hv, hx2, hx3, hrw, hch⟩ := hst
          obtain ⟨hc1, hf1⟩ := hrw k (by rw [hE]; omega)
          rw [hr k (Nat.le_refl _)] at hc1
          have hbel := hch.below HBW.out (Nat.le_refl _)
          have HBk := Lib.hid (HB.out.below hbel)
          have hca := (World.cell?_of_block (a := ⟨b, off + i, none⟩) (hbel.block b hbb)).trans HC.out
          obtain ⟨p, hp⟩ : ∃ p, p = i + k := ⟨_, rfl⟩
          rw [← hp] at hc1 hf1
          obtain ⟨a, ha⟩ : ∃ a, a = (sub D i (nb + 2)).getD k 0 := ⟨_, rfl⟩
          rw [← ha] at hc1
          obtain ⟨ha0, ha1⟩ : 0 ≤ a ∧ a < 10000 := by rw [ha]; exact HDS.out.at k
          have HAa := Lib.hid ha
          clear hch hrw hv hdE hr hE E ha hbel
          obtain ⟨y, hy⟩ : ∃ y, y = Lb.getD k 0 := ⟨_, rfl⟩
          obtain ⟨hy0, hy1⟩ : 0 ≤ y ∧ y < 10000 := by rw [hy]; exact HDB.out.at k
          have HY := Lib.hid hy
          clear hy
          obtain ⟨hm0, hm1⟩ := small_mul hd0 (show d ≤ 10000 by omega) hy0 hy1
          obtain ⟨m, hm⟩ : ∃ m, m = d * y := ⟨_, rfl⟩
          rw [← hm] at hm0 hm1
          have hm2 : m ≤ 99990000 := by omega
          obtain ⟨s, hs⟩ : ∃ s, s = a + m + x := ⟨_, rfl⟩
          have hs0 : 0 ≤ s := by omega
          have hs1 : s ≤ 99990000 + 20000 := by omega
          have hs2 : s < 10000 * d + 10000 := by omega
          have HS := Lib.hid hs
          have HMm := Lib.hid hm
          have e0 : IntKind.i64.wrap ((i : Int) + (k : Int)) = (p : Int) := by (rw [IntWalk.i64_in _ (by omega)]; omega)
          have e1 : IntKind.i64.wrap (d * y) = m := by rw [← hm]; exact IntWalk.i64_in _ (by omega)
          have e2 : IntKind.i64.wrap (a + m) = a + m := IntWalk.i64_in _ (by omega)
          have e3 : IntKind.i64.wrap (a + m + x) = s := by rw [← hs]; exact IntWalk.i64_in _ (by omega)
          have hpM : p < M := by omega
          have hpM2 : (p : Int) < (M : Int) := by omega
          have k2 : k ≤ maxLen := by unfold maxLen; omega
          have R := Lib.hid (fun q => addSt_step (q := q) HST2.out (show k < nb + 2 by omega) (s := s) (by rw [HS.out, HMm.out, HAa.out, HY.out]; omega) hs0 hs2)
          rw [← hp] at R
          have HZ2 := Lib.hid (fun (e : k = nb) => times_zero (by have := R.out 0; rw [hp, e] at this; exact this) HLB.out HDB.out HDS.out (by rw [HSL.out]; omega) hd0 (by omega) HSM.out)
          clear hs hm hp
          rcases hgo with hg | ⟨hg1, _, hg2⟩
          all_goals
            go_wp2
            go_quiet ((go_at_call 92; exact quiet_left (digit_y Lb nb cb k Ab _ y HY.out HLB.out mb k2 HBk.out)))
            clear e1 e2 e3
            go_wp2
            first
            | (exact ⟨⟨k + 1, _, by omega, by go_num, rfl, fun e => HZ2.out (by omega), R.out _⟩, by simp [intOf]; omega⟩)
            | (go_roundw
               case rel => exact ⟨k + 1, _, by omega, by go_num, rfl, fun e => HZ2.out (by omega), R.out _⟩
               case measure => simp [intOf]; omega)
        · obtain rfl : x = 0 := by
            obtain ⟨E, hE, hr, hdE, hv, hx2, hx3, hrw, hch⟩ := hst
            by_cases c : k = nb + 1
            · exact HKX.out c
            · omega
          have hkn : nb ≤ k := by omega
          obtain ⟨S, s1, s2, s3, s4, s5⟩ := times_end HST2.out hkn (by omega) HLB.out HSL.out HDS.out
          have R := Lib.hid (mul_round HDD.out HDG.out HV.out HRD.out HBW.out HG.out hlt (show (Lb ++ [0]).length = nb + 1 by simp [HLB.out]) HLA.out (Dig.snoc HDB.out (by omega) (by omega)) HDA.out HDd.out s1 (s2.take _) (by rw [val_pad]; exact s3) s4 s5)
          clear s1 s2 s3 s4 s5 hst
          go_wp2
          first
          | (exact ⟨⟨i + 1, by omega, by go_num, R.out⟩, by simp [intOf]; omega⟩)
          | (go_roundw
             case rel => exact ⟨i + 1, by omega, by go_num, R.out⟩
             case measure => simp [intOf]; omega)
    · obtain rfl : i = na := by omega
      obtain ⟨D, hD, hdD, hvD, hrD, hbD, hgD⟩ := HST.out
      rw [take_all_val (by rw [HLA.out]; exact Nat.le_refl _), val_pad, Int.mul_comm] at hvD
      rw [← HM.out] at hD
      have R := Lib.hid (gives_trim (w2 := wr) hdD hvD hrD hgD (by rw [hD]; exact Nat.le_refl M) (by omega) hbD)
      have HDD := Lib.hid hD
      have HI := Lib.hid (hrD.ints hgD)
      clear hD hdD hvD hrD hbD hgD
      go_wp2_with fail
      refine (rtrim_any D M M _ _ HDD.out (Nat.le_refl _) (by unfold maxLen; omega) HI.out).mono ?_
      rintro e w4 ⟨rfl, rfl⟩
      go_wp2_with fail
      go_ret
      exact R.out
end Go.Proofs.YtkfkefgkepoaaaaGreatDoor
