/- Contracts of difference and product of lists of digits; a part of a row that is changed in place. -/
import Derived.Test.YtkfkefgkepoaaaaGreatDoorNWc
namespace Go.Proofs.YtkfkefgkepoaaaaGreatDoor
open Go.RowKit
set_option linter.unusedVariables false
set_option maxRecDepth 100000

set_option maxHeartbeats 1000000 in
theorem difference_any (na ca nb cb : Nat) (La Lb : List Int) (Aa Ab : Option Addr) (W : World) (ha : La.length = na) (hb : Lb.length = nb) (hna : na ≤ 10000) (hnb : nb ≤ na) (hda : Dig La) (hdb : Dig Lb)
    (hle : val Lb ≤ val La) (hA : IntsIn W Aa La) (hB : IntsIn W Ab Lb) :
    Calls Tryz.prog 90 #[.slice Aa na ca, .slice Ab nb cb] W (Gives (val La - val Lb) W) := by
  have HA := Lib.hid hA
  have HB := Lib.hid hB
  have HLA := Lib.hid ha
  have HLB := Lib.hid hb
  have HDA := Lib.hid hda
  have HDB := Lib.hid hdb
  have HLE := Lib.hid hle
  clear hA hB ha hb hda hdb hle
  obtain ⟨M, hM⟩ : ∃ M, M = na + 1 := ⟨_, rfl⟩
  have hMn : M ≤ 10001 := by omega
  have hmM : na < M := by omega
  have HM := Lib.hid hM.symm
  have hmk := make_eq (M : Int) M rfl (by omega)
  have HRES : Hid (∀ (w2 w3 : World) (D : List Int), W.heap.size < w2.heap.size → Below W.heap.size W w2 → D.length = M → Dig (D.take (M - 1)) → val D = val (laid La M) - 1 * val Lb → RowIs w3 W.heap.size 0 D → Chg w2 w3 W.heap.size 0 (0 + M) →
      Gives (val La - val Lb) W (.returned (.slice (some ⟨W.heap.size, 0, none⟩) (trimL D).length M)) w3) := by
    intro w2 w3 D hs hb hl hd hv hr hc
    rw [laid_val, Int.one_mul] at hv
    have v1 := val_lt HDA.out
    have v4 := val_nonneg HDB.out
    have v5 := HLE.out
    rw [HLA.out] at v1
    exact gives_trim (w2 := w3) (dig_of_top (k := na) (by omega) (by rw [show M - 1 = na by omega] at hd; exact hd) (by omega) (by have := pw_pos na; omega)) hv hr (by rw [hc.size]; exact hs) (by omega) (by omega) (hc.below hb (Nat.le_refl _))
  have e1 : IntKind.i64.wrap ((na : Int) + 1) = (M : Int) := by (rw [IntWalk.i64_in _ (by omega)]; omega)
  clear hM
  obtain ⟨w2, hcp, hrow, hbel, hsz⟩ := copy_to W M na ca Aa La HLA.out (by omega) HA.out
  have HROW := Lib.hid hrow
  have HBEL := Lib.hid hbel
  obtain ⟨ht0, ht1⟩ := laid_top (L := La) (M := M) HDA.out
  rw [show M - 1 = na by have := HM.out; omega] at ht0 ht1
  clear hrow hbel
  go_enter Tryz.func90, Tryz.ntmps90
  go_wp2_with fail
  refine (takeTimes_any W.heap.size 0 M na M nb cb (laid La M) Lb Ab 1 w2 (laid_len (by rw [HLA.out]; omega)) HM.out (Nat.le_refl _) (by omega) HLB.out hnb (by omega) (by omega) ((laid_dig HDA.out M).take _) HDB.out HROW.out (HB.out.low HBEL.out (Nat.le_refl _)) hsz ht0 ht1).mono ?_
  rintro e w3 ⟨rfl, D, hD, hdig, hval, hrw, hch, _⟩
  have R := Lib.hid (HRES.out w2 w3 D hsz HBEL.out hD hdig hval hrw hch)
  have HD := Lib.hid hD
  have HI := Lib.hid (hrw.ints (by rw [hch.size]; exact hsz))
  clear hdig hval hrw hch hD
  go_wp2_with fail
  refine (trim_any D M M _ _ HD.out (Nat.le_refl _) (by unfold maxLen; omega) HI.out).mono ?_
  rintro e w4 ⟨rfl, rfl⟩
  go_wp2_with fail
  go_ret
  exact R.out

theorem getD_app1 {l m : List Int} {j : Nat} (h : j < l.length) : (l ++ m).getD j 0 = l.getD j 0 := by simp [List.getD_eq_getElem?_getD, List.getElem?_append, h]
theorem getD_app2 {l m : List Int} {j : Nat} (h : l.length ≤ j) : (l ++ m).getD j 0 = m.getD (j - l.length) 0 := by simp [List.getD_eq_getElem?_getD, List.getElem?_append, show ¬ j < l.length by omega]
theorem getD_drop (l : List Int) (i j : Nat) : (l.drop i).getD j 0 = l.getD (i + j) 0 := by simp [List.getD_eq_getElem?_getD]
theorem getD_take {l : List Int} {i j : Nat} (h : j < i) : (l.take i).getD j 0 = l.getD j 0 := by simp [List.getD_eq_getElem?_getD, h]
/-- A part of a row. -/
def sub (D : List Int) (i n : Nat) : List Int := (D.drop i).take n
/-- A row with another part. -/
def put (D : List Int) (i n : Nat) (S : List Int) : List Int := D.take i ++ (S ++ D.drop (i + n))
theorem sub_len {D : List Int} {i n : Nat} (h : i + n ≤ D.length) : (sub D i n).length = n := by simp [sub]; omega
theorem put_len {D S : List Int} {i n : Nat} (h : i + n ≤ D.length) (hs : S.length = n) : (put D i n S).length = D.length := by simp [put]; omega
theorem row_sub {w : World} {g : Nat} {D : List Int} (h : RowIs w g 0 D) {i n : Nat} (hn : i + n ≤ D.length) : RowIs w g i (sub D i n) := by
  intro j hj
  rw [sub_len hn] at hj
  have := h (i + j) (by omega)
  rw [Nat.zero_add] at this
  refine ⟨?_, this.2⟩
  rw [this.1]
  unfold sub
  rw [getD_take hj, getD_drop]
theorem row_put {w w' : World} {g : Nat} {D S : List Int} (h : RowIs w g 0 D) {i n : Nat} (hn : i + n ≤ D.length) (hs : S.length = n) (h' : RowIs w' g i S) (hc : Chg w w' g i (i + n)) : RowIs w' g 0 (put D i n S) := by
  intro j hj
  rw [put_len hn hs] at hj
  have hj0 := h j hj
  rw [Nat.zero_add] at hj0 ⊢
  refine ⟨?_, (hc.frozen _).trans hj0.2⟩
  unfold put
  by_cases c1 : j < i
  · rw [hc.cell j (.inl c1), hj0.1, getD_app1 (by simp; omega), getD_take c1]
  · have hl : (D.take i).length = i := by simp; omega
    rw [getD_app2 (by omega), hl]
    by_cases c2 : j < i + n
    · have := (h' (j - i) (by omega)).1
      rw [show i + (j - i) = j by omega] at this
      rw [this, getD_app1 (by omega)]
    · rw [hc.cell j (.inr (by omega)), hj0.1, getD_app2 (by omega), getD_drop]
      congr 3; omega
theorem val_put {D S : List Int} {i n : Nat} (hn : i + n ≤ D.length) (hs : S.length = n) : val (put D i n S) = val D + pw i * (val S - val (sub D i n)) := by
  have h1 := val_take_drop D i (by omega)
  have h2 := val_take_drop (D.drop i) n (by simp; omega)
  rw [List.drop_drop] at h2
  unfold put sub
  rw [val_append, val_append, h1, h2, List.length_take, Nat.min_eq_left (by omega), hs]
  grind
theorem dig_put {D S : List Int} {i n : Nat} (hd : Dig D) (hs : Dig S) : Dig (put D i n S) := Dig.append.2 ⟨hd.take _, Dig.append.2 ⟨hs, hd.drop _⟩⟩
theorem dig_sub {D : List Int} (hd : Dig D) (i n : Nat) : Dig (sub D i n) := (hd.drop _).take _
/-- The rest of a row above a place. -/
theorem val_drop_lt {D : List Int} {i : Nat} {p : Int} (hd : Dig D) (hi : i ≤ D.length) (h : val D < p * pw i) : val (D.drop i) < p := by
  have h1 := val_take_drop D i hi
  have h2 := val_nonneg (hd.take i)
  have h3 := pw_pos i
  by_cases c : val (D.drop i) < p
  · exact c
  · have := Int.mul_le_mul_of_nonneg_left (show p ≤ val (D.drop i) by omega) (Int.le_of_lt h3)
    rw [Int.mul_comm] at this
    omega
theorem val_sub_le {D : List Int} {i n : Nat} (hd : Dig D) (h : i + n ≤ D.length) : val (sub D i n) ≤ val (D.drop i) := by
  have h2 := val_take_drop (D.drop i) n (by simp; omega)
  have := Int.mul_nonneg (Int.le_of_lt (pw_pos n)) (val_nonneg ((hd.drop i).drop n))
  unfold sub; omega

/-- The state of product behind i digits of the second list. -/
def MulSt (g na nb : Nat) (La Lb : List Int) (W : World) (i : Nat) (wr : World) : Prop :=
  ∃ D : List Int, D.length = na + nb ∧ Dig D ∧ val D = val La * val (Lb.take i) ∧ RowIs wr g 0 D ∧ Below g W wr ∧ g < wr.heap.size
theorem mul_round {g na nb i : Nat} {La Lb S D : List Int} {W wr w' : World} {d : Int} (hn : D.length = na + nb) (hD : Dig D) (hv : val D = val La * val (Lb.take i)) (hr : RowIs wr g 0 D) (hb : Below g W wr) (hg : g < wr.heap.size)
    (hi : i < nb) (ha : La.length = na) (hlb : Lb.length = nb) (hda : Dig La) (hdb : Dig Lb) (hd : d = Lb.getD i 0)
    (h1 : S.length = na + 1) (h2 : Dig (S.take na)) (h3 : val S = val (sub D i (na + 1)) + d * val La) (h4 : RowIs w' g i S) (h5 : Chg wr w' g i (i + (na + 1))) : MulSt g na nb La Lb W (i + 1) w' := by
  have hdi := hdb.at i
  rw [← hd] at hdi
  have b1 := val_lt hda
  have b0 := val_nonneg hda
  rw [ha] at b1
  have b2 := val_lt (hdb.take i)
  rw [List.length_take, Nat.min_eq_left (by omega)] at b2
  have b3 := val_nonneg (hdb.take i)
  have p1 := pw_pos na
  have p2 := pw_pos i
  have hlt : val D < pw na * pw i := by
    rw [hv]
    have x1 := Int.mul_le_mul_of_nonneg_right (show val La ≤ pw na - 1 by omega) b3
    have x2 := Int.mul_lt_mul_of_pos_left b2 p1
    have x3 : (pw na - 1) * val (Lb.take i) = pw na * val (Lb.take i) - val (Lb.take i) := by grind
    omega
  have s1 := val_drop_lt hD (by omega) hlt
  have s2 := val_sub_le (n := na + 1) hD (by omega : i + (na + 1) ≤ D.length)
  have s3 := val_nonneg (dig_sub hD i (na + 1))
  have m1 := Int.mul_nonneg hdi.1 b0
  have m2 := Int.mul_le_mul_of_nonneg_right (show d ≤ 9999 by omega) b0
  have hS : Dig S := dig_of_top h1 h2 (by omega) (by omega)
  refine ⟨put D i (na + 1) S, by rw [put_len (by omega) h1, hn], dig_put hD hS, ?_, row_put hr (by omega) h1 h4 h5, h5.below hb (Nat.le_refl _), by rw [h5.size]; exact hg⟩
  rw [val_put (by omega) h1, h3, hv, val_take_succ Lb i, ← hd]
  grind
theorem mul_zero (W : World) (na nb : Nat) (La Lb : List Int) : MulSt W.heap.size na nb La Lb W 0 (W.alloc (.cells (ints (List.replicate (na + nb) 0)).toArray 3)) :=
  ⟨List.replicate (na + nb) 0, by simp, Dig.zeros _, by rw [val_zeros]; simp [val], row_of_cells (heap_alloc_new W _), (Below.refl _ _).alloc (Nat.le_refl _) _, by simp⟩
set_option maxHeartbeats 1000000 in
theorem product_any (na ca nb cb : Nat) (La Lb : List Int) (Aa Ab : Option Addr) (W : World) (ha : La.length = na) (hb : Lb.length = nb) (hna : na ≤ 10000) (hnb : nb ≤ 10000) (hda : Dig La) (hdb : Dig Lb)
    (hA : IntsIn W Aa La) (hB : IntsIn W Ab Lb) :
    Calls Tryz.prog 68 #[.slice Aa na ca, .slice Ab nb cb] W (Gives (val La * val Lb) W) := by
  have HA := Lib.hid hA
  have HB := Lib.hid hB
  have HLA := Lib.hid ha
  have HLB := Lib.hid hb
  have HDA := Lib.hid hda
  have HDB := Lib.hid hdb
  clear hA hB ha hb hda hdb
  obtain ⟨M, hM⟩ : ∃ M, M = na + nb := ⟨_, rfl⟩
  have hMn : M ≤ 20000 := by omega
  have HM := Lib.hid hM
  have hmk := make_eq (M : Int) M rfl (by omega)
  have e1 : IntKind.i64.wrap ((na : Int) + (nb : Int)) = (M : Int) := by (rw [IntWalk.i64_in _ (by omega)]; omega)
  have HZ := Lib.hid (mul_zero W na nb La Lb)
  rw [← hM] at HZ
  clear hM
  go_enter Tryz.func68, Tryz.ntmps68
  go_wp2
  go_loopw [16] (fun i wr => ∃ k : Nat, k ≤ nb ∧ i = .int .i64 (k : Int) ∧ MulSt W.heap.size na nb La Lb W k wr) (fun i _ => nb - (intOf i).toNat)
  case atStart => exact ⟨0, Nat.zero_le _, rfl, HZ.out⟩
  case round =>
    obtain ⟨k, hk, rfl, hst⟩ := hrel
    have HST := Lib.hid hst
    clear hst
    by_cases hlt : k < nb
    · obtain ⟨D, hD, hdD, hvD, hrD, hbD, hgD⟩ := HST.out
      obtain ⟨b, off, rfl, hbb, hcc⟩ := (HB.out.below hbD) (by rw [HLB.out]; omega)
      have hcell := hcc k (by rw [HLB.out]; exact hlt)
      clear hcc
      obtain ⟨d, hd⟩ : ∃ d, d = Lb.getD k 0 := ⟨_, rfl⟩
      obtain ⟨hd0, hd1⟩ : 0 ≤ d ∧ d < 10000 := by rw [hd]; exact HDB.out.at k
      rw [← hd] at hcell
      have HDd := Lib.hid hd
      have hkM : k < M := by have := HM.out; omega
      have hkM2 : k + na + 1 ≤ M := by have := HM.out; omega
      have hkM3 : (k : Int) + (na : Int) + 1 ≤ (M : Int) := by omega
      have HR := Lib.hid (row_sub hrD (i := k) (n := na + 1) (by rw [hD]; omega))
      have HBW := Lib.hid hbD
      have HG := Lib.hid hgD
      have HSL := Lib.hid (sub_len (D := D) (i := k) (n := na + 1) (by rw [hD]; omega))
      have HDS := Lib.hid (dig_sub hdD k (na + 1))
      have HDD := Lib.hid hD
      have HDG := Lib.hid hdD
      have HV := Lib.hid hvD
      have HRD := Lib.hid hrD
      clear hD hdD hvD hrD hbD hd
      obtain ⟨x0, x1⟩ : -100000 ≤ (sub D k (na + 1)).getD na 0 ∧ (sub D k (na + 1)).getD na 0 ≤ 100000 := by have := HDS.out.at na; omega
      go_wp2_with fail
      refine (addTimes_any W.heap.size k (k + na + 1 - k) na (M - k) na ca (sub D k (na + 1)) La Aa d wr (by rw [HSL.out]; omega) (by omega) (by omega) (by omega) HLA.out (Nat.le_refl _) hd0 (by omega) (HDS.out.take _) HDA.out HR.out (HA.out.low HBW.out (Nat.le_refl _)) HG.out x0 x1).mono ?_
      rintro e w3 ⟨rfl, S, hS, hdig, hval, hrw, hch⟩
      rw [show k + na + 1 - k = na + 1 by omega] at hS hdig hch
      have R := Lib.hid (mul_round HDD.out HDG.out HV.out HRD.out HBW.out HG.out hlt HLA.out HLB.out HDA.out HDB.out HDd.out hS hdig hval hrw hch)
      clear hS hdig hval hrw hch
      go_wp2_with fail
      go_roundw
      case rel => exact ⟨k + 1, by omega, by go_num, R.out⟩
      case measure => simp [intOf]; omega
    · obtain rfl : k = nb := by omega
      obtain ⟨D, hD, hdD, hvD, hrD, hbD, hgD⟩ := HST.out
      rw [take_all_val (by rw [HLB.out]; exact Nat.le_refl _)] at hvD
      rw [← HM.out] at hD
      have R := Lib.hid (gives_trim (w2 := wr) hdD hvD hrD hgD (by rw [hD]; exact Nat.le_refl M) (by omega) hbD)
      have HDD := Lib.hid hD
      have HI := Lib.hid (hrD.ints hgD)
      clear hD hdD hvD hrD hbD hgD
      go_wp2_with fail
      refine (trim_any D M M _ _ HDD.out (Nat.le_refl _) (by unfold maxLen; omega) HI.out).mono ?_
      rintro e w4 ⟨rfl, rfl⟩
      go_wp2_with fail
      go_ret
      exact R.out
end Go.Proofs.YtkfkefgkepoaaaaGreatDoor
