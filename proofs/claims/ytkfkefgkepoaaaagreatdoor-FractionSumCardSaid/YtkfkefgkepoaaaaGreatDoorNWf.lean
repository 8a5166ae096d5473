/- Contract of divide: the quotient and the remainder. -/
import Derived.Test.YtkfkefgkepoaaaaGreatDoorNWe
namespace Go.Proofs.YtkfkefgkepoaaaaGreatDoor
open Go.RowKit
set_option linter.unusedVariables false
set_option maxRecDepth 100000

/-- A call that returns the digits of two numbers, in memory of its own. -/
def Gives2 (n m : Int) (W : World) (e : Ending) (w' : World) : Prop :=
  ∃ A c B d, e = .returned (.tuple #[.slice A (digs n).length c, .slice B (digs m).length d]) ∧ IntsIn w' A (digs n) ∧ (digs n).length ≤ c ∧ c ≤ maxLen ∧ IntsIn w' B (digs m) ∧ (digs m).length ≤ d ∧ d ≤ maxLen ∧ Below W.heap.size W w'
/-- The state of divide with j places to come. -/
def DivSt (gq gr na nb ps : Nat) (x y : Int) (W : World) (j : Nat) (wr : World) : Prop :=
  ∃ R Q : List Int, R.length = na + 1 ∧ Dig R ∧ Q.length = ps ∧ Dig Q ∧ val R + y * (pw j * val (Q.drop j)) = x ∧ val (R.drop j) < y ∧ RowIs wr gr 0 R ∧ RowIs wr gq 0 Q ∧ Below gq W wr ∧ gr < wr.heap.size
theorem RowIs.far {w w' : World} {g off b lo hi : Nat} {D : List Int} (h : RowIs w g off D) (hc : Chg w w' b lo hi) (hne : g ≠ b) : RowIs w' g off D := fun j hj =>
  ⟨(World.cell?_of_block (a := ⟨g, off + j, none⟩) (hc.block g hne)).trans (h j hj).1, (hc.frozen _).trans (h j hj).2⟩
theorem RowIs.below {w w' : World} {g off B : Nat} {D : List Int} (h : RowIs w g off D) (hb : Below B w w') (hg : g < B) : RowIs w' g off D := fun j hj =>
  ⟨(hb.cell (p := ⟨g, off + j, none⟩) hg).trans (h j hj).1, (hb.frozen (p := ⟨g, off + j, none⟩) hg).trans (h j hj).2⟩
theorem RowIs.set0 {w : World} {g k : Nat} {D : List Int} (h : RowIs w g 0 D) (hk : k < D.length) (x : Int) : RowIs (w.setCell ⟨g, k, none⟩ (.int .i64 x)) g 0 (D.set k x) := by
  have := h.set hk x
  rwa [Nat.zero_add] at this
theorem drop_set {Q : List Int} {i : Nat} (d : Int) (h : i < Q.length) : (Q.set i d).drop i = d :: Q.drop (i + 1) := by
  rw [List.drop_eq_getElem_cons (by simpa using h)]
  congr 1
  · simp
  · rw [List.drop_set_of_lt (by omega)]
theorem drop_cons {R : List Int} {i : Nat} (h : i < R.length) : val (R.drop i) = R.getD i 0 + 10000 * val (R.drop (i + 1)) := by
  rw [List.drop_eq_getElem_cons h, val_cons, getD_lt h]
theorem drop_put {R S : List Int} {i n : Nat} (h : i + n ≤ R.length) : (put R i n S).drop i = S ++ R.drop (i + n) := by
  unfold put
  rw [List.drop_append_of_le_length (by simp; omega), List.drop_take]
  simp
/-- The part that divideDigit gets is the rest from there on. -/
theorem part_val {R : List Int} {i nb : Nat} {y : Int} (hd : Dig R) (hn : i + (nb + 1) ≤ R.length) (h : val (R.drop (i + 1)) < y) (hy : y ≤ pw nb) :
    val (sub R i (nb + 1)) = val (R.drop i) ∧ val (R.drop (i + (nb + 1))) = 0 ∧ val (R.drop i) < 10000 * y := by
  have h1 := drop_cons (R := R) (i := i) (by omega)
  have h2 := hd.at i
  have h3 := val_take_drop (R.drop i) (nb + 1) (by simp; omega)
  have h4 := val_nonneg ((hd.drop i).take (nb + 1))
  have h5 := val_nonneg ((hd.drop i).drop (nb + 1))
  have h6 : val ((R.drop i).drop (nb + 1)) = 0 := by
    by_cases c : val ((R.drop i).drop (nb + 1)) = 0
    · exact c
    · have := Int.mul_le_mul_of_nonneg_left (show 1 ≤ val ((R.drop i).drop (nb + 1)) by omega) (Int.le_of_lt (pw_pos (nb + 1)))
      rw [pw_succ] at this h3
      omega
  rw [h6] at h3
  rw [List.drop_drop] at h6
  unfold sub
  exact ⟨by omega, h6, by omega⟩
theorem div_round {gq gr na nb ps i : Nat} {x y : Int} {W wr w' : World} {R Q S : List Int} (hR : R.length = na + 1) (hdR : Dig R) (hQ : Q.length = ps) (hdQ : Dig Q) (hv : val R + y * (pw (i + 1) * val (Q.drop (i + 1))) = x) (hlt : val (R.drop (i + 1)) < y)
    (hrr : RowIs wr gr 0 R) (hrq : RowIs wr gq 0 Q) (hb : Below gq W wr) (hg : gr < wr.heap.size) (hgg : gq < gr) (hi : i < ps) (hps : ps + nb = na + 1) (hy : y ≤ pw nb) (hy0 : 0 < y)
    (hS : S.length = nb + 1) (hdS : Dig S) (hvS : val S = val (sub R i (nb + 1)) % y) (hrS : RowIs w' gr i S) (hc : Chg wr w' gr i (i + (nb + 1))) :
    DivSt gq gr na nb ps x y W i (w'.setCell ⟨gq, i, none⟩ (.int .i64 (val (sub R i (nb + 1)) / y))) := by
  obtain ⟨p1, p2, p3⟩ := part_val hdR (by omega) hlt hy
  have p4 := val_nonneg (hdR.drop i)
  have hm := Int.emod_add_mul_ediv (val (R.drop i)) y
  have hm0 := Int.emod_nonneg (val (R.drop i)) (by omega : y ≠ 0)
  have hm1 := Int.emod_lt_of_pos (val (R.drop i)) hy0
  have hq0 : 0 ≤ val (R.drop i) / y := Int.ediv_nonneg p4 (by omega)
  have hq1 : val (R.drop i) / y < 10000 := Int.ediv_lt_of_lt_mul hy0 p3
  rw [p1] at hvS ⊢
  have hrow := row_put hrr (by omega) hS hrS hc
  have hrq2 := hrq.far hc (by omega)
  have hb2 : Below gq W w' := hc.below hb (by omega)
  refine ⟨put R i (nb + 1) S, Q.set i (val (R.drop i) / y), by rw [put_len (by omega) hS, hR], dig_put hdR hdS, by simp [hQ], ?_, ?_, ?_, ?_, hrq2.set0 (by omega) _, ?_, ?_⟩
  · intro z hz
    rcases List.mem_or_eq_of_mem_set hz with h | rfl
    · exact hdQ z h
    · exact ⟨hq0, hq1⟩
  · rw [drop_set _ (by omega), val_cons, val_put (by omega) hS, hvS, p1]
    rw [pw_succ] at hv
    generalize val (R.drop i) / y = q at *
    generalize val (R.drop i) % y = r at *
    grind
  · rw [drop_put (by omega), val_append, p2, hvS]
    omega
  · intro j hj
    have := hrow j hj
    have hne : gq ≠ gr := by omega
    exact ⟨(World.cell?_setCell_other _ _ _ _ (by first | (simp; done) | (simp; omega))).trans this.1, (World.frozen?_setCell _ _ _ _).trans this.2⟩
  · exact hb2.setCell (p := ⟨gq, i, none⟩) (Nat.le_refl _) _
  · have := hc.size
    have e : (w'.setCell ⟨gq, i, none⟩ (.int .i64 (val (R.drop i) / y))).heap.size = w'.heap.size := by simp [World.setCell]
    omega
theorem div_start {gq gr na nb ps : Nat} {x y : Int} {W w2 : World} {La : List Int} (ha : La.length = na) (hda : Dig La) (hx : val La = x) (hps : ps + nb = na + 1) (hnb : 0 < nb) (htop : pw (nb - 1) ≤ y)
    (hr : RowIs w2 gr 0 (laid La (na + 1))) (hq : RowIs w2 gq 0 (List.replicate ps 0)) (hb : Below gq W w2) (hg : gr < w2.heap.size) : DivSt gq gr na nb ps x y W ps w2 := by
  refine ⟨_, _, laid_len (by omega), laid_dig hda _, by simp, Dig.zeros _, ?_, ?_, hr, hq, hb, hg⟩
  · rw [laid_val, hx, List.drop_replicate, val_zeros]; simp
  · have h1 := val_lt hda
    rw [ha] at h1
    have h2 : val ((laid La (na + 1)).drop ps) < pw (nb - 1) := by
      refine val_drop_lt (laid_dig hda _) (by rw [laid_len (by omega)]; omega) ?_
      rw [laid_val, Int.mul_comm, ← pw_add, show ps + (nb - 1) = na by omega]
      exact h1
    omega
theorem div_end {gq gr na nb ps : Nat} {x y : Int} {W wr : World} (h : DivSt gq gr na nb ps x y W 0 wr) (hy0 : 0 < y) (hgg : gq < gr) (hW : W.heap.size = gq) (hna : na ≤ 10000) (hps : ps ≤ 10001) :
    ∃ R Q : List Int, R.length = na + 1 ∧ Q.length = ps ∧ IntsIn wr (some ⟨gr, 0, none⟩) R ∧ IntsIn wr (some ⟨gq, 0, none⟩) Q ∧
      Gives2 (x / y) (x % y) W (.returned (.tuple #[.slice (some ⟨gq, 0, none⟩) (trimL Q).length ps, .slice (some ⟨gr, 0, none⟩) (trimL R).length (na + 1)])) wr := by
  obtain ⟨R, Q, hR, hdR, hQ, hdQ, hv, hlt, hrr, hrq, hb, hg⟩ := h
  simp only [List.drop_zero, pw, Int.one_mul] at hv hlt
  have h0 := val_nonneg hdR
  obtain ⟨d1, d2⟩ := ediv_of (U := x) (V := y) (q := val Q) hy0 (by rw [Int.mul_comm]; omega) (by rw [Int.mul_comm]; omega)
  have iR := hrr.ints hg
  have iQ := hrq.ints (show gq < wr.heap.size by omega)
  have tR := trimL_digs hdR
  have tQ := trimL_digs hdQ
  have lR := (trimL_prefix R).2
  have lQ := (trimL_prefix Q).2
  have jR := iR.trim
  have jQ := iQ.trim
  have eR : val R = x % y := by rw [d2, Int.mul_comm]; omega
  have eQ : val Q = x / y := by rw [d1]
  rw [eR] at tR
  rw [eQ] at tQ
  rw [tR] at lR jR
  rw [tQ] at lQ jQ
  refine ⟨R, Q, hR, hQ, iR, iQ, _, _, _, _, by rw [tR, tQ], jQ, by omega, by unfold maxLen; omega, jR, by omega, by unfold maxLen; omega, by subst hW; exact hb⟩

theorem div_small {x y : Int} {La : List Int} {A : Option Addr} {c na : Nat} {W w' : World} (h : ClonePost La na W (.returned (.slice A na c)) w') (hla : La = digs x) (hna : La.length = na) (hx : 0 ≤ x) (hlt : x < y) :
    Gives2 (x / y) (x % y) W (.returned (.tuple #[.slice none 0 0, .slice A na c])) w' := by
  obtain ⟨A', c', he, h1, h2, h3, h4⟩ := h
  injection he with he
  injection he with e1 e2 e3
  subst e1
  subst e3
  rw [Int.ediv_eq_zero_of_lt hx hlt, Int.emod_eq_of_lt hx hlt, ]
  subst hla
  subst hna
  exact ⟨none, 0, A, c, by rw [digs_zero]; rfl, by rw [digs_zero]; exact IntsIn.nil _ _, by rw [digs_zero]; exact Nat.le_refl _, Nat.zero_le _, h1, h2, h3, h4⟩

set_option maxHeartbeats 2000000 in
theorem divide_any (na ca nb cb : Nat) (x y : Int) (Aa Ab : Option Addr) (W : World) (ha : (digs x).length = na) (hb : (digs y).length = nb) (hna : na ≤ 10000) (hnb : nb ≤ 10000) (hx : 0 ≤ x) (hy : 0 < y)
    (hA : IntsIn W Aa (digs x)) (hB : IntsIn W Ab (digs y)) :
    Calls Tryz.prog 64 #[.slice Aa na ca, .slice Ab nb cb] W (Gives2 (x / y) (x % y) W) := by
  obtain ⟨La, hLa⟩ : ∃ L, L = digs x := ⟨_, rfl⟩
  obtain ⟨Lb, hLb⟩ : ∃ L, L = digs y := ⟨_, rfl⟩
  have htop := digs_top hy
  have hdla : Dig La := by rw [hLa]; exact dig_digs x
  have hdlb : Dig Lb := by rw [hLb]; exact dig_digs y
  have hvx : val La = x := by rw [hLa]; exact val_digs hx
  have hvy : val Lb = y := by rw [hLb]; exact val_digs (by omega)
  have hylt := val_lt hdlb
  have hxlt := val_lt hdla
  have hnb0 : 0 < nb := by rw [← hb, digs_pos hy]; simp
  rw [hb] at htop
  rw [← hLa] at ha hA
  rw [← hLb] at hb hB
  rw [hb, hvy] at hylt
  rw [ha, hvx] at hxlt
  have HA := Lib.hid hA
  have HB := Lib.hid hB
  have HLA := Lib.hid ha
  have HLB := Lib.hid hb
  have HDA := Lib.hid hdla
  have HDB := Lib.hid hdlb
  have HVX := Lib.hid hvx
  have HVY := Lib.hid hvy
  have HLa := Lib.hid hLa
  have HTOP := Lib.hid htop
  have HYLT := Lib.hid hylt
  by_cases hsm : na < nb
  · have hlt : x < y := by have := pw_mono (show na ≤ nb - 1 by omega); omega
    have HLT := Lib.hid hlt
    clear hA hB ha hb hdla hdlb hvx hvy hLa hLb htop hylt hxlt hlt
    have hz : (na : Int) - (nb : Int) + 1 ≤ 0 := by omega
    go_enter Tryz.func64, Tryz.ntmps64
    go_wp2_with fail
    refine (clone_any La na ca Aa _ HLA.out (by omega) HA.out).mono ?_
    rintro e w' ⟨A', c', rfl, h1, h2, h3, h4⟩
    have R := Lib.hid (div_small (x := x) (y := y) ⟨A', c', rfl, h1, h2, h3, h4⟩ HLa.out HLA.out hx HLT.out)
    clear h1 h2 h3 h4
    go_wp2_with fail
    go_ret2
    exact R.out
  · obtain ⟨ps, hps⟩ : ∃ ps, ps = na - nb + 1 := ⟨_, rfl⟩
    obtain ⟨M, hM⟩ : ∃ M, M = na + 1 := ⟨_, rfl⟩
    have hps1 : ps + nb = na + 1 := by omega
    have hps2 : ps ≤ 10001 := by omega
    have hps0 : 0 < ps := by omega
    have HPS := Lib.hid hps1
    have HMM := Lib.hid hM
    have hmk1 := make_eq (ps : Int) ps rfl (by omega)
    have hmk2 := make_eq (M : Int) M rfl (by omega)
    have e1 : IntKind.i64.wrap ((na : Int) - (nb : Int)) = (na : Int) - (nb : Int) := IntWalk.i64_in _ (by omega)
    have e2 : IntKind.i64.wrap ((na : Int) - (nb : Int) + 1) = (ps : Int) := by (rw [IntWalk.i64_in _ (by omega)]; omega)
    have e3 : IntKind.i64.wrap ((na : Int) + 1) = (M : Int) := by (rw [IntWalk.i64_in _ (by omega)]; omega)
    obtain ⟨w2, hcp, hrow, hbel, hsz⟩ := copy_to' (W.alloc (.cells (ints (List.replicate ps 0)).toArray 3)) (W.heap.size + 1) M na ca Aa La (by simp) HLA.out (by omega) (HA.out.below ((Below.refl _ _).alloc (Nat.le_refl _) _))
    have hq0 : RowIs w2 W.heap.size 0 (List.replicate ps 0) := RowIs.below (row_of_cells (heap_alloc_new W _)) hbel (by omega)
    have hb2 : Below W.heap.size W w2 := ((Below.refl _ _).alloc (Nat.le_refl _) _).trans (hbel.mono (by omega))
    rw [hM] at hrow
    have HST := Lib.hid (div_start (gq := W.heap.size) (x := x) (y := y) (W := W) HLA.out HDA.out HVX.out hps1 hnb0 HTOP.out hrow hq0 hb2 hsz)
    clear hA hB ha hb hdla hdlb hvx hvy hLa hLb htop hylt hxlt hps hM hrow hbel hq0 hb2 hps1
    have hpz : decide (ps = 0) = false := by simp; omega
    go_enter Tryz.func64, Tryz.ntmps64
    go_wp2
    go_loopw [9] (fun at' wr => ∃ (j : Nat) (a : Int), j ≤ ps ∧ a = (j : Int) - 1 ∧ at' = .int .i64 a ∧ DivSt W.heap.size (W.heap.size + 1) na nb ps x y W j wr) (fun i _ => (intOf i + 1).toNat)
    case atStart => exact ⟨ps, _, Nat.le_refl _, rfl, rfl, HST.out⟩
    case round =>
      obtain ⟨j, a, hj, ha, rfl, hst⟩ := hrel
      have HST2 := Lib.hid hst
      clear hst
      cases j with
      | zero =>
        obtain rfl : a = -1 := by omega
        obtain ⟨R, Q, hR, hQ, iR, iQ, hg⟩ := div_end HST2.out hy (Nat.lt_succ_self _) rfl hna hps2
        have HR := Lib.hid hR
        have HQ := Lib.hid hQ
        have HIR := Lib.hid iR
        have HIQ := Lib.hid iQ
        rw [← HMM.out] at hg
        have HG := Lib.hid hg
        have HMR := Lib.hid (hR.trans HMM.out.symm)
        clear hR hQ iR iQ hg ha
        go_wp2_with fail
        refine (trim_any Q ps ps _ _ HQ.out (Nat.le_refl _) (by unfold maxLen; omega) HIQ.out).mono ?_
        rintro e w4 ⟨rfl, rfl⟩
        go_wp2_with fail
        refine (trim_any R M M _ _ HMR.out (Nat.le_refl _) (by have := HMM.out; unfold maxLen; omega) HIR.out).mono ?_
        rintro e w4 ⟨rfl, rfl⟩
        go_wp2_with fail
        go_ret2
        exact HG.out
      | succ i =>
        obtain rfl : a = (i : Int) := by omega
        clear ha
        obtain ⟨R, Q, hR, hdR, hQ, hdQ, hv, hlt, hrr, hrq, hb, hg⟩ := HST2.out
        have hi : i < ps := by omega
        have hiM : i + nb + 1 ≤ M := by have := HMM.out; have := HPS.out; omega
        have hiM2 : (i : Int) + (nb : Int) + 1 ≤ (M : Int) := by omega
        have hiM3 : i < M := by omega
        have hfz := (hrq i (by rw [hQ]; exact hi)).2
        have hcl := (hrq i (by rw [hQ]; exact hi)).1
        rw [Nat.zero_add] at hfz hcl
        have hs1 : i + (nb + 1) ≤ R.length := by rw [hR]; have := HMM.out; omega
        obtain ⟨p1, p2, p3⟩ := part_val hdR hs1 hlt (Int.le_of_lt HYLT.out)
        have HSL := Lib.hid (sub_len hs1)
        have HSR := Lib.hid (row_sub hrr hs1)
        have HSD := Lib.hid (dig_sub hdR i (nb + 1))
        have HSV := Lib.hid (show val (sub R i (nb + 1)) < 10000 * y by omega)
        have HBL := Lib.hid (HB.out.low (g := W.heap.size + 1) (hb.mono (Nat.le_refl _)) (by omega))
        have HBW := Lib.hid hb
        obtain ⟨q, hq⟩ : ∃ q, q = Q.getD i 0 := ⟨_, rfl⟩
        rw [← hq] at hcl
        have HRND := Lib.hid (fun (w' : World) (S : List Int) => div_round (w' := w') (S := S) hR hdR hQ hdQ hv hlt hrr hrq hb hg (Nat.lt_succ_self _) hi HPS.out (Int.le_of_lt HYLT.out) hy)
        have HGS := Lib.hid hg
        clear hR hdR hQ hdQ hv hlt hrr hrq hb hs1 p1 p2 p3 hq hg
        go_wp2_with fail
        refine (divideDigit_any (W.heap.size + 1) i (i + nb + 1 - i) nb (M - i) cb (sub R i (nb + 1)) Lb _ y Ab wr (by rw [HSL.out]; omega) (by omega) hnb0 (by omega) (by omega) HLB.out HSD.out HDB.out rfl HVY.out HTOP.out HSV.out HSR.out HBL.out HGS.out).mono ?_
        rintro e w3 ⟨rfl, S, hS, hdS, hvS, hrS, hc⟩
        rw [show i + nb + 1 - i = nb + 1 by omega] at hS hc
        have hfz3 := (hc.frozen ⟨W.heap.size, i, none⟩).trans hfz
        have hcl3 := (World.cell?_of_block (a := ⟨W.heap.size, i, none⟩) (hc.block W.heap.size (by omega))).trans hcl
        have R3 := Lib.hid (HRND.out w3 S hS hdS hvS hrS hc)
        obtain ⟨v, hv⟩ : ∃ v, v = val (sub R i (nb + 1)) / y := ⟨_, rfl⟩
        rw [← hv] at R3 ⊢
        clear hS hdS hvS hrS hc hv hfz hcl
        go_wp2_with fail
        go_roundw
        case rel => exact ⟨i, _, by omega, rfl, rfl, R3.out⟩
        case measure => simp [intOf]
end Go.Proofs.YtkfkefgkepoaaaaGreatDoor
