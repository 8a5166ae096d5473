/- Contracts: Class and Coda of both sides, Valid of the reference. -/
import Derived.Test.YthcdbhancfpldaaLd
import Derived.Test.YthcdbhancfpldaaUe
namespace Go.Proofs.Ythcdbhancfpldaa
open Go.RowKit
set_option linter.unusedVariables false
set_option linter.unusedSimpArgs false
set_option maxRecDepth 100000

set_option maxHeartbeats 16000000 in
theorem rcvalid_any (C : Clu) (A : Option Addr) (n c : Nat) (B : Option Addr) (m d : Nat) (w : World) (hC : CIn w A n B m C) :
    Calls Try.prog 19 #[.agg #[.slice A n c, .slice B m d]] w fun e w' => e = .returned (.int .i64 (vC C)) ∧ Below w.heap.size w w' := by
  have HC := Lib.hid hC
  have hn := hC.hn
  have hm := hC.hm
  have V1 := Lib.hid ((Hp.start w).cbox_new A n c B m d)
  clear hC
  by_cases g1 : 12 < n
  · have HE := Lib.hid (show vC C = 3 by unfold vC; rw [if_pos (.inl (by rw [HC.out.ls]; exact g1))])
    go_enter Try.func19, Try.ntmps19
    go_wp2
    go_ret
    exact ⟨sym_int HE.out, V1.out.below⟩
  · by_cases g2 : 12 < m
    · have HE := Lib.hid (show vC C = 3 by unfold vC; rw [if_pos (.inr (by rw [HC.out.lb]; exact g2))])
      go_enter Try.func19, Try.ntmps19
      go_wp2
      go_ret
      exact ⟨sym_int HE.out, V1.out.below⟩
    · have HG := Lib.hid (show vC C = if snF C.s ≠ 0 then snF C.s else brF C.s.length 0 C.b by
        unfold vC; rw [if_neg (by rw [HC.out.ls, HC.out.lb]; omega)])
      go_enter Try.func19, Try.ntmps19
      go_wp2
      go_loopw [3] (fun i wr => ∃ k : Nat, k ≤ n ∧ i = .int .i64 k ∧ snF (C.s.take k) = 0 ∧ Hp w [cbox w.heap.size A n c B m d] wr) (fun i _ => n - (intOf i).toNat)
      case atStart => exact ⟨0, Nat.zero_le _, rfl, rfl, V1.out⟩
      case round =>
        obtain ⟨k, hk, rfl, hz, V0⟩ := hrel
        have HZ := Lib.hid hz
        have V := Lib.hid V0
        clear hz V0
        obtain ⟨b0, b1, bg⟩ := V.out.cbox_at (i := 0) rfl
        by_cases hlt : k < n
        · obtain ⟨x, hx⟩ := idx_lt HC.out.ls hlt
          obtain ⟨b, off, rfl, hb, c0, c1, c2⟩ := (HC.out.cs.below V.out.below).snd hx
          have HX := Lib.hid hx
          clear hx
          go_wp2_with fail
          refine (rvalid_any x _ (HC.out.ht x (List.mem_of_getElem? HX.out))).mono ?_
          rintro e w1 ⟨rfl, hb1⟩
          have V2 := Lib.hid (V.out.go hb1)
          clear hb1 b0 b1 bg c0 c1 c2
          obtain ⟨b0, b1, bg⟩ := V2.out.cbox_at (i := 0) rfl
          obtain ⟨b3, off3, e3, hb3, c0, c1, c2⟩ := (HC.out.cs.below V2.out.below).snd HX.out
          injection e3 with e3
          injection e3 with e3 e4
          subst e3 e4
          obtain ⟨v, hv⟩ : ∃ v, vS x = v := ⟨_, rfl⟩
          have HV := Lib.hid hv
          rw [hv]
          clear hv
          by_cases h0 : v = 0
          · subst h0
            go_wp2_with fail
            refine (rnucleus_any x _).mono ?_
            rintro e w2 ⟨rfl, hb2⟩
            have V3 := Lib.hid (V2.out.go hb2)
            clear hb2 b0 b1 bg c0 c1 c2
            cases hnu : nuc x with
            | true =>
              have HE := Lib.hid (show vC C = 1 by
                have h5 : snF C.s = 1 := by rw [snF_at HZ.out HX.out, if_neg (by simp [HV.out]), if_pos hnu]
                rw [HG.out, h5]; rfl)
              clear hnu
              go_wp2_with fail
              go_ret
              exact ⟨sym_int HE.out, V3.out.below⟩
            | false =>
              have HN := Lib.hid (snF_next HZ.out HX.out HV.out hnu)
              clear hnu
              go_wp2_with fail
              go_roundw
              case rel => exact ⟨k + 1, by omega, by go_num, HN.out, V3.out⟩
              case measure => simp [intOf]; omega
          · have HE := Lib.hid (show vC C = v by
              have h5 : snF C.s = v := by rw [snF_at HZ.out HX.out, HV.out, if_pos h0]
              rw [HG.out, h5, if_pos h0])
            have hne : (v != 0) = true := bne_yes h0
            clear h0
            go_wp2_with fail
            go_ret
            exact ⟨sym_int HE.out, V2.out.below⟩
        · have HB := Lib.hid (show vC C = brF n 0 C.b by
            have h5 := HZ.out
            rw [take_all (by rw [HC.out.ls]; omega)] at h5
            rw [HG.out, if_neg (by simp [h5]), HC.out.ls])
          go_wp2_with fail
          go_loopw [5] (fun i wr => ∃ k : Nat, k ≤ m ∧ i = .int .i64 k ∧ brF n 0 C.b = brF n (pvB C.b k) (C.b.drop k) ∧ Hp w [cbox w.heap.size A n c B m d] wr) (fun i _ => m - (intOf i).toNat)
          case atStart => exact ⟨0, Nat.zero_le _, rfl, rfl, V.out⟩
          case round =>
            clear HZ V hlt hk b0 b1 bg
            obtain ⟨k, hk, rfl, hz, V0⟩ := hrel
            have HZ := Lib.hid hz
            have V := Lib.hid V0
            clear hz V0
            obtain ⟨b0, b1, bg⟩ := V.out.cbox_at (i := 0) rfl
            by_cases hlt : k < m
            · obtain ⟨b, off, rfl, hb, c0⟩ := (HC.out.cb.below V.out.below).int (j := k) (by rw [HC.out.lb]; omega)
              have HE := Lib.hid (brF_at (by rw [HC.out.lb]; omega) HZ.out)
              obtain ⟨a, ha⟩ : ∃ a, C.b.getD k 0 = a := ⟨_, rfl⟩
              have HA := Lib.hid ha
              rw [ha] at c0
              clear ha
              have V5 := Lib.hid (show ∀ nq, Hp w [cbox w.heap.size A n c (some ⟨b, off, none⟩) m d] (wr.drewN nq) from fun nq => V.out.go (bdrewN _ nq))
              by_cases h1 : a < 0
              · have HF := Lib.hid (show vC C = 6 by rw [HB.out, HE.out, HA.out, if_pos (.inl h1)])
                go_wp2_with fail
                go_quiet (fail)
                go_wp2_with fail
                go_ret
                exact ⟨sym_int HF.out, (V5.out _).below⟩
              · by_cases h2 : (n : Int) < a
                · have HF := Lib.hid (show vC C = 6 by rw [HB.out, HE.out, HA.out, if_pos (.inr h2)])
                  go_wp2_with fail
                  go_quiet (fail)
                  go_wp2_with fail
                  go_ret
                  exact ⟨sym_int HF.out, (V5.out _).below⟩
                · by_cases h00 : k = 0
                  · subst h00
                    rw [Nat.add_zero] at c0
                    have HF := Lib.hid (show brF n 0 C.b = brF n (pvB C.b (0 + 1)) (C.b.drop (0 + 1)) by rw [HE.out, HA.out, if_neg (by omega), if_neg (show ¬ a < pvB C.b 0 from h1)])
                    go_wp2_with fail
                    go_quiet (fail)
                    go_wp2_with fail
                    go_quiet (fail)
                    go_wp2_with fail
                    go_roundw
                    case rel => exact ⟨0 + 1, by omega, by go_num, HF.out, V5.out _⟩
                    case measure => simp [intOf]; omega
                  · obtain ⟨p, hp⟩ : ∃ p, k = p + 1 := ⟨k - 1, by omega⟩
                    have hk1 : (0 : Int) < (k : Int) := by omega
                    have hk2 : 0 < k := by omega
                    have hw : IntKind.i64.wrap ((k : Int) - 1) = (p : Int) := by rw [IntWalk.i64_in _ (by omega)]; omega
                    obtain ⟨b2, off2, e2, _, c1⟩ := (HC.out.cb.below V.out.below).int (j := p) (by rw [HC.out.lb]; omega)
                    injection e2 with e2
                    injection e2 with e2 e3
                    subst e2 e3
                    obtain ⟨y, hy⟩ : ∃ y, C.b.getD p 0 = y := ⟨_, rfl⟩
                    have HP := Lib.hid (show pvB C.b k = y by rw [hp]; exact hy)
                    rw [hy] at c1
                    have hpm : p < m := by omega
                    clear hy hp h00
                    by_cases h3 : a < y
                    · have HF := Lib.hid (show vC C = 18 by rw [HB.out, HE.out, HA.out, if_neg (by omega), if_pos (by rw [HP.out]; exact h3)])
                      go_wp2_with fail
                      go_quiet (fail)
                      go_wp2_with fail
                      go_quiet (fail)
                      go_wp2_with fail
                      go_ret
                      exact ⟨sym_int HF.out, ((V5.out _).go (bdrewN _ _)).below⟩
                    · have HF := Lib.hid (show brF n 0 C.b = brF n (pvB C.b (k + 1)) (C.b.drop (k + 1)) by rw [HE.out, HA.out, if_neg (by omega), if_neg (by rw [HP.out]; exact h3)])
                      go_wp2_with fail
                      go_quiet (fail)
                      go_wp2_with fail
                      go_quiet (fail)
                      go_wp2_with fail
                      go_roundw
                      case rel => exact ⟨k + 1, by omega, by go_num, HF.out, V5.out _⟩
                      case measure => simp [intOf]; omega
            · have HE := Lib.hid (show vC C = 0 by rw [HB.out, HZ.out, List.drop_eq_nil_of_le (by rw [HC.out.lb]; omega)]; rfl)
              go_wp2_with fail
              go_ret
              exact ⟨sym_int HE.out, V.out.below⟩
/-- What Class and Coda return. -/
def clR (C : Clu) : Int := if vC C = 0 then clsC C.s C.b else 0
def cdR (C : Clu) : Int := if vC C = 0 then cdC C.s C.b else 0
theorem tup_is {a b c d : Int} (h1 : c = a) (h2 : d = b) : Ending.returned (.tuple #[.int .i64 a, .int .i64 b]) = Ending.returned (.tuple #[.int .i64 c, .int .i64 d]) := by rw [h1, h2]
theorem core_end {L : List Snd} (h : coS L ≠ []) : ∃ (k q : Nat) (x : Snd), (cpI L).length = q + 1 ∧ (cpI L).getD q 0 = (k : Int) ∧ lstC L = (k : Int) ∧ L[k]? = some x ∧ dblC L = (x.k == 7) := by
  obtain ⟨A, x, C, e, hC, hx, hl, hs⟩ := core_last _ L rfl h
  have h1 : cpI L = cpI A ++ [(A.length : Int)] := by
    have h2 : cpF 1 C = [] := List.eq_nil_of_length_eq_zero (by rw [cpF_len, hC]; rfl)
    have h3 : cpI (x :: C) = [0] := by unfold cpI; rw [cpF, if_neg hx, h2]; rfl
    rw [e, cpI_cat, h3]; simp
  refine ⟨A.length, (cpI A).length, x, by rw [h1, List.length_append]; rfl, ?_, hl, ?_, ?_⟩
  · rw [h1, List.getD_eq_getElem?_getD, List.getElem?_append_right (Nat.le_refl _), Nat.sub_self]; rfl
  · rw [e, List.getElem?_append_right (Nat.le_refl _), Nat.sub_self]; rfl
  · unfold dblC; rw [hs, List.getLast?_append]; simp
set_option maxHeartbeats 4000000 in
theorem cClass_any (C : Clu) (A : Option Addr) (n c : Nat) (B : Option Addr) (m d : Nat) (w : World) (hC : CIn w A n B m C) :
    Calls Try.prog 13 #[.agg #[.slice A n c, .slice B m d]] w fun e w' => e = .returned (.tuple #[.int .i64 (clR C), .int .i64 (vC C)]) ∧ Below w.heap.size w w' := by
  have HC := Lib.hid hC
  have V1 := Lib.hid ((Hp.start w).cbox_new A n c B m d)
  obtain ⟨b0, b1, bg⟩ := V1.out.cbox_at (i := 0) rfl
  clear hC
  go_enter Try.func13, Try.ntmps13
  go_wp2_with fail
  refine (cvalid_any C A n c B m d _ (HC.out.below V1.out.below)).mono ?_
  rintro e w1 ⟨rfl, hb1⟩
  have V2 := Lib.hid (V1.out.go hb1)
  clear hb1 b0 b1 bg
  obtain ⟨b0, b1, bg⟩ := V2.out.cbox_at (i := 0) rfl
  obtain ⟨v, hv⟩ : ∃ v, vC C = v := ⟨_, rfl⟩
  have HV := Lib.hid hv
  rw [hv]
  clear hv
  by_cases h0 : v = 0
  · subst h0
    have HR := Lib.hid (show clR C = clsC C.s C.b by unfold clR; rw [if_pos HV.out])
    go_wp2_with fail
    refine (class_any C A n c B m d _ (HC.out.below V2.out.below) (vC_zero.1 HV.out).asc).mono ?_
    rintro e w2 ⟨rfl, hb2⟩
    have V3 := Lib.hid (V2.out.go hb2)
    go_wp2_with fail
    go_ret2
    exact ⟨tup_is HR.out HV.out, V3.out.below⟩
  · have HR := Lib.hid (show clR C = 0 by unfold clR; rw [HV.out, if_neg h0])
    have hne : (v != 0) = true := bne_yes h0
    clear h0
    go_wp2_with fail
    go_ret2
    exact ⟨tup_is HR.out HV.out, V2.out.below⟩
set_option maxHeartbeats 4000000 in
theorem rClass_any (C : Clu) (A : Option Addr) (n c : Nat) (B : Option Addr) (m d : Nat) (w : World) (hC : CIn w A n B m C) :
    Calls Try.prog 15 #[.agg #[.slice A n c, .slice B m d]] w fun e w' => e = .returned (.tuple #[.int .i64 (clR C), .int .i64 (vC C)]) ∧ Below w.heap.size w w' := by
  have HC := Lib.hid hC
  have V1 := Lib.hid ((Hp.start w).cbox_new A n c B m d)
  obtain ⟨b0, b1, bg⟩ := V1.out.cbox_at (i := 0) rfl
  clear hC
  go_enter Try.func15, Try.ntmps15
  go_wp2_with fail
  refine (rcvalid_any C A n c B m d _ (HC.out.below V1.out.below)).mono ?_
  rintro e w1 ⟨rfl, hb1⟩
  have V2 := Lib.hid (V1.out.go hb1)
  clear hb1 b0 b1 bg
  obtain ⟨b0, b1, bg⟩ := V2.out.cbox_at (i := 0) rfl
  obtain ⟨v, hv⟩ : ∃ v, vC C = v := ⟨_, rfl⟩
  have HV := Lib.hid hv
  rw [hv]
  clear hv
  by_cases h0 : v = 0
  · subst h0
    have HR := Lib.hid (show clR C = clsC C.s C.b by unfold clR; rw [if_pos HV.out])
    go_wp2_with fail
    refine (rclass_any C A n c B m d _ (HC.out.below V2.out.below)).mono ?_
    rintro e w2 ⟨rfl, hb2⟩
    have V3 := Lib.hid (V2.out.go hb2)
    go_wp2_with fail
    go_ret2
    exact ⟨tup_is HR.out HV.out, V3.out.below⟩
  · have HR := Lib.hid (show clR C = 0 by unfold clR; rw [HV.out, if_neg h0])
    have hne : (v != 0) = true := bne_yes h0
    clear h0
    go_wp2_with fail
    go_ret2
    exact ⟨tup_is HR.out HV.out, V2.out.below⟩
set_option maxHeartbeats 4000000 in
theorem cCoda_any (C : Clu) (A : Option Addr) (n c : Nat) (B : Option Addr) (m d : Nat) (w : World) (hC : CIn w A n B m C) :
    Calls Try.prog 16 #[.agg #[.slice A n c, .slice B m d]] w fun e w' => e = .returned (.tuple #[.int .i64 (cdR C), .int .i64 (vC C)]) ∧ Below w.heap.size w w' := by
  have HC := Lib.hid hC
  have hn := hC.hn
  have V1 := Lib.hid ((Hp.start w).cbox_new A n c B m d)
  obtain ⟨b0, b1, bg⟩ := V1.out.cbox_at (i := 0) rfl
  clear hC
  go_enter Try.func16, Try.ntmps16
  go_wp2_with fail
  refine (cvalid_any C A n c B m d _ (HC.out.below V1.out.below)).mono ?_
  rintro e w1 ⟨rfl, hb1⟩
  have V2 := Lib.hid (V1.out.go hb1)
  clear hb1 b0 b1 bg
  obtain ⟨b0, b1, bg⟩ := V2.out.cbox_at (i := 0) rfl
  obtain ⟨v, hv⟩ : ∃ v, vC C = v := ⟨_, rfl⟩
  have HV := Lib.hid hv
  rw [hv]
  clear hv
  by_cases h0 : v = 0
  · subst h0
    have HR := Lib.hid (show cdR C = cdC C.s C.b by unfold cdR; rw [if_pos HV.out])
    go_wp2_with fail
    refine (class_any C A n c B m d _ (HC.out.below V2.out.below) (vC_zero.1 HV.out).asc).mono ?_
    rintro e w2 ⟨rfl, hb2⟩
    have V3 := Lib.hid (V2.out.go hb2)
    clear hb2 b0 b1 bg
    obtain ⟨b0, b1, bg⟩ := V3.out.cbox_at (i := 0) rfl
    obtain ⟨g, hg⟩ : ∃ g, clsC C.s C.b = g := ⟨_, rfl⟩
    have HG := Lib.hid hg
    rw [hg]
    clear hg
    by_cases h4 : g = 4
    · subst h4
      have HD := Lib.hid (show cdC C.s C.b = if dblC C.s = true then lstC C.s + 1 else lstC C.s by unfold cdC; rw [if_pos HG.out])
      have HN := Lib.hid (coS_ne (L := C.s) (by have := (cls_four.1 HG.out).1; omega))
      go_wp2_with fail
      refine (places_any C.s n c A _ HC.out.ls hn (HC.out.cs.below V3.out.below)).mono ?_
      rintro e w3 ⟨D, q, f, rfl, hq, hp3⟩
      have V4 := Lib.hid (V3.out.join hp3)
      obtain ⟨k, p, x, hp1, hp2, hl, hx, hd⟩ := core_end HN.out
      obtain ⟨bd, od, rfl, hbd, d0⟩ := (hp3.cells (i := 0) (A := D) (c := f) rfl rfl).int (j := p) (by omega)
      rw [hp2] at d0
      have hkn : k < n := by have := (List.getElem?_eq_some_iff.1 hx).1; rw [HC.out.ls] at this; exact this
      have hqp : q = p + 1 := by rw [hq, hp1]
      have hqb : q ≤ 1000000 := by
        have := cp_bd C.s C.s.length
        rw [List.take_length, ← hq, HC.out.ls] at this
        omega
      have hpq : p < q := by omega
      have hw : IntKind.i64.wrap ((q : Int) - 1) = (p : Int) := by rw [IntWalk.i64_in _ (by omega)]; omega
      have HL := Lib.hid hl
      have HX := Lib.hid hd
      clear hp1 hp2 hq hp3 hl hd hqp b0 b1 bg
      obtain ⟨b0, b1, bg⟩ := V4.out.cbox_at (i := 1) rfl
      obtain ⟨bs1, os1, rfl, hbs, x0, _, _⟩ := (HC.out.cs.below V4.out.below).snd hx
      clear hx
      by_cases h7 : x.k = 7
      · have e7 : (x.k == 7) = true := beq_yes h7
        have HE := Lib.hid (show cdR C = (k : Int) + 1 by rw [HR.out, HD.out, HX.out, e7, HL.out]; rfl)
        clear h7
        go_wp2_with fail
        go_ret2
        exact ⟨tup_is (show cdR C = _ by first | exact HE.out | (rw [HE.out]; simp)) HV.out, V4.out.below⟩
      · have e7 : (x.k == 7) = false := beq_no h7
        have HE := Lib.hid (show cdR C = (k : Int) by rw [HR.out, HD.out, HX.out, e7, HL.out]; rfl)
        clear h7
        go_wp2_with fail
        go_ret2
        exact ⟨tup_is HE.out HV.out, V4.out.below⟩
    · have HE := Lib.hid (show cdR C = 0 by rw [HR.out]; unfold cdC; rw [HG.out, if_neg h4])
      have hne : (g != 4) = true := bne_yes h4
      clear h4
      go_wp2_with fail
      go_ret2
      exact ⟨tup_is HE.out HV.out, V3.out.below⟩
  · have HR := Lib.hid (show cdR C = 0 by unfold cdR; rw [HV.out, if_neg h0])
    have hne : (v != 0) = true := bne_yes h0
    clear h0
    go_wp2_with fail
    go_ret2
    exact ⟨tup_is HR.out HV.out, V2.out.below⟩
set_option maxHeartbeats 4000000 in
theorem rCoda_any (C : Clu) (A : Option Addr) (n c : Nat) (B : Option Addr) (m d : Nat) (w : World) (hC : CIn w A n B m C) :
    Calls Try.prog 17 #[.agg #[.slice A n c, .slice B m d]] w fun e w' => e = .returned (.tuple #[.int .i64 (cdR C), .int .i64 (vC C)]) ∧ Below w.heap.size w w' := by
  have HC := Lib.hid hC
  have hn := hC.hn
  have V1 := Lib.hid ((Hp.start w).cbox_new A n c B m d)
  obtain ⟨b0, b1, bg⟩ := V1.out.cbox_at (i := 0) rfl
  clear hC
  go_enter Try.func17, Try.ntmps17
  go_wp2_with fail
  refine (rcvalid_any C A n c B m d _ (HC.out.below V1.out.below)).mono ?_
  rintro e w1 ⟨rfl, hb1⟩
  have V2 := Lib.hid (V1.out.go hb1)
  clear hb1 b0 b1 bg
  obtain ⟨b0, b1, bg⟩ := V2.out.cbox_at (i := 0) rfl
  obtain ⟨v, hv⟩ : ∃ v, vC C = v := ⟨_, rfl⟩
  have HV := Lib.hid hv
  rw [hv]
  clear hv
  by_cases h0 : v = 0
  · subst h0
    have HR := Lib.hid (show cdR C = cdC C.s C.b by unfold cdR; rw [if_pos HV.out])
    go_wp2_with fail
    refine (rclass_any C A n c B m d _ (HC.out.below V2.out.below)).mono ?_
    rintro e w2 ⟨rfl, hb2⟩
    have V3 := Lib.hid (V2.out.go hb2)
    clear hb2 b0 b1 bg
    obtain ⟨b0, b1, bg⟩ := V3.out.cbox_at (i := 0) rfl
    obtain ⟨g, hg⟩ : ∃ g, clsC C.s C.b = g := ⟨_, rfl⟩
    have HG := Lib.hid hg
    rw [hg]
    clear hg
    by_cases h4 : g = 4
    · subst h4
      have HD := Lib.hid (show cdC C.s C.b = if dblC C.s = true then lstC C.s + 1 else lstC C.s by unfold cdC; rw [if_pos HG.out])
      have HN := Lib.hid (coS_ne (L := C.s) (by have := (cls_four.1 HG.out).1; omega))
      go_wp2_with fail
      refine (rcore_any C.s n c A B m d _ HC.out.ls hn (HC.out.cs.below V3.out.below)).mono ?_
      rintro e w3 ⟨D, q, f, rfl, hq, hp3⟩
      have V4 := Lib.hid (V3.out.join hp3)
      obtain ⟨k, p, x, hp1, hp2, hl, hx, hd⟩ := core_end HN.out
      obtain ⟨bd, od, rfl, hbd, d0⟩ := (hp3.cells (i := 0) (A := D) (c := f) rfl rfl).int (j := p) (by omega)
      rw [hp2] at d0
      have hkn : k < n := by have := (List.getElem?_eq_some_iff.1 hx).1; rw [HC.out.ls] at this; exact this
      have hqp : q = p + 1 := by rw [hq, hp1]
      have hqb : q ≤ 1000000 := by
        have := cp_bd C.s C.s.length
        rw [List.take_length, ← hq, HC.out.ls] at this
        omega
      have hpq : p < q := by omega
      have hw : IntKind.i64.wrap ((q : Int) - 1) = (p : Int) := by rw [IntWalk.i64_in _ (by omega)]; omega
      have HL := Lib.hid hl
      have HX := Lib.hid hd
      clear hp1 hp2 hq hp3 hl hd hqp b0 b1 bg
      obtain ⟨b0, b1, bg⟩ := V4.out.cbox_at (i := 1) rfl
      obtain ⟨bs1, os1, rfl, hbs, x0, _, _⟩ := (HC.out.cs.below V4.out.below).snd hx
      clear hx
      by_cases h7 : x.k = 7
      · have e7 : (x.k == 7) = true := beq_yes h7
        have HE := Lib.hid (show cdR C = (k : Int) + 1 by rw [HR.out, HD.out, HX.out, e7, HL.out]; rfl)
        clear h7
        go_wp2_with fail
        go_ret2
        exact ⟨tup_is (show cdR C = _ by first | exact HE.out | (rw [HE.out]; simp)) HV.out, V4.out.below⟩
      · have e7 : (x.k == 7) = false := beq_no h7
        have HE := Lib.hid (show cdR C = (k : Int) by rw [HR.out, HD.out, HX.out, e7, HL.out]; rfl)
        clear h7
        go_wp2_with fail
        go_ret2
        exact ⟨tup_is HE.out HV.out, V4.out.below⟩
    · have HE := Lib.hid (show cdR C = 0 by rw [HR.out]; unfold cdC; rw [HG.out, if_neg h4])
      have hne : (g != 4) = true := bne_yes h4
      clear h4
      go_wp2_with fail
      go_ret2
      exact ⟨tup_is HE.out HV.out, V3.out.below⟩
  · have HR := Lib.hid (show cdR C = 0 by unfold cdR; rw [HV.out, if_neg h0])
    have hne : (v != 0) = true := bne_yes h0
    clear h0
    go_wp2_with fail
    go_ret2
    exact ⟨tup_is HR.out HV.out, V2.out.below⟩
end Go.Proofs.Ythcdbhancfpldaa
