/- Contracts: the class of a cluster, of both sides. -/
import Derived.Test.YthcdbhancfpldaaLc
namespace Go.Proofs.Ythcdbhancfpldaa
open Go.RowKit
set_option linter.unusedVariables false
set_option linter.unusedSimpArgs false
set_option maxRecDepth 100000

theorem asc_first {M : List Int} (h : M.Pairwise (· ≤ ·)) (h0 : 0 < M.length) : ∀ a ∈ M, M.getD 0 0 ≤ a := by
  match M, h0 with
  | z :: r, _ =>
    intro a ha
    rcases List.mem_cons.1 ha with rfl | ha
    · exact Int.le_refl _
    · exact (List.pairwise_cons.1 h).1 a ha
theorem asc_last {M : List Int} {p : Nat} (h : M.Pairwise (· ≤ ·)) (h0 : M.length = p + 1) : ∀ a ∈ M, a ≤ M.getD p 0 := by
  intro a ha
  obtain ⟨j, hj, e⟩ := List.mem_iff_getElem.1 ha
  rw [getD_at (by omega : p < M.length), ← e]
  rcases Nat.lt_or_ge j p with hl | hl
  · exact List.pairwise_iff_getElem.1 h j p hj (by omega) hl
  · have : j = p := by omega
    subst this; exact Int.le_refl _
theorem cls_one {S : List Snd} {M : List Int} (h : btL S ≤ 1) : clsC S M = 1 := by unfold clsC; rw [if_pos h]
theorem cls_nml {S : List Snd} {M : List Int} (h : ¬ btL S ≤ 1) (h1 : mlB S = false) : clsC S M = 4 := by unfold clsC; rw [if_neg h, if_pos h1]
theorem cls_two {S : List Snd} {M : List Int} (h : ¬ btL S ≤ 1) (h1 : mlB S = true) (h2 : ∀ a ∈ M, cAt S 1 < a) : clsC S M = 2 := by unfold clsC; rw [if_neg h, if_neg (by simp [h1]), if_pos h2]
theorem cls_three {S : List Snd} {M : List Int} (h : ¬ btL S ≤ 1) (h1 : mlB S = true) (h2 : ¬ ∀ a ∈ M, cAt S 1 < a) (h3 : M ≠ [] ∧ ∀ a ∈ M, a ≤ cAt S 0) : clsC S M = 3 := by unfold clsC; rw [if_neg h, if_neg (by simp [h1]), if_neg h2, if_pos h3]
theorem cls_rest {S : List Snd} {M : List Int} (h : ¬ btL S ≤ 1) (h1 : mlB S = true) (h2 : ¬ ∀ a ∈ M, cAt S 1 < a) (h3 : ¬ (M ≠ [] ∧ ∀ a ∈ M, a ≤ cAt S 0)) : clsC S M = 4 := by unfold clsC; rw [if_neg h, if_neg (by simp [h1]), if_neg h2, if_neg h3]
theorem ml_len {S : List Snd} (h : mlB S = true) : (cpI S).length = 2 := by
  obtain ⟨x, y, e, _⟩ := mlB_yes h
  rw [cpI_len, e]; rfl
set_option maxHeartbeats 8000000 in
theorem class_any (C : Clu) (A : Option Addr) (n c : Nat) (B : Option Addr) (m d : Nat) (w : World) (hC : CIn w A n B m C) (hasc : C.b.Pairwise (· ≤ ·)) :
    Calls Try.prog 35 #[.agg #[.slice A n c, .slice B m d]] w fun e w' => e = .returned (.int .i64 (clsC C.s C.b)) ∧ Below w.heap.size w w' := by
  have HC := Lib.hid hC
  have hn := hC.hn
  have hm := hC.hm
  have HASC := Lib.hid hasc
  have V1 := Lib.hid ((Hp.start w).cbox_new A n c B m d)
  obtain ⟨b0, b1, bg⟩ := V1.out.cbox_at (i := 0) rfl
  clear hC hasc
  go_enter Try.func35, Try.ntmps35
  go_wp2_with fail
  refine (beats_any C.s n c A _ HC.out.ls (by omega) (HC.out.cs.below V1.out.below)).mono ?_
  rintro e w1 ⟨rfl, hb1⟩
  have V2 := Lib.hid (V1.out.go hb1)
  clear hb1 b0 b1 bg
  obtain ⟨b0, b1, bg⟩ := V2.out.cbox_at (i := 0) rfl
  obtain ⟨t, ht⟩ : ∃ t, btL C.s = t := ⟨_, rfl⟩
  have HT := Lib.hid ht
  rw [ht]
  clear ht
  by_cases h1 : t ≤ 1
  · have HE := Lib.hid (cls_one (M := C.b) (show btL C.s ≤ 1 by rw [HT.out]; exact h1))
    go_wp2_with fail
    go_ret
    exact ⟨sym_int HE.out, V2.out.below⟩
  · have HB := Lib.hid (show ¬ btL C.s ≤ 1 by rw [HT.out]; exact h1)
    go_wp2_with fail
    refine (places_any C.s n c A _ HC.out.ls hn (HC.out.cs.below V2.out.below)).mono ?_
    rintro e w2 ⟨D, q, f, rfl, hq, hp2⟩
    have V3 := Lib.hid (V2.out.join hp2)
    have HQ := Lib.hid hq
    have HD := Lib.hid (hp2.cells (i := 0) (A := D) (c := f) rfl rfl)
    have hq1 : q ≤ 1000000 := by
      have := cp_bd C.s C.s.length
      rw [List.take_length, ← hq] at this
      have := HC.out.ls
      omega
    clear hp2 hq b0 b1 bg
    obtain ⟨b0, b1, bg⟩ := V3.out.cbox_at (i := 1) rfl
    go_wp2_with fail
    refine (ml_any C.s n c A D q f _ HC.out.ls hn (HC.out.cs.below V3.out.below) HQ.out hq1 HD.out).mono ?_
    rintro e w3 ⟨rfl, rfl⟩
    cases hml : mlB C.s with
    | false =>
      have HE := Lib.hid (cls_nml (M := C.b) HB.out hml)
      clear hml
      go_wp2_with fail
      go_ret
      exact ⟨sym_int HE.out, V3.out.below⟩
    | true =>
      have HML := Lib.hid hml
      obtain ⟨k0, k1, x, y, e, l0, l1, _, _, _, a0, a1⟩ := core_two (ml_len hml)
      have hq2 : q = 2 := by rw [HQ.out]; exact ml_len hml
      subst hq2
      have hD := HD.out
      rw [e] at hD
      obtain ⟨bd, od, rfl, hbd, d0⟩ := hD.int (j := 0) (by simp)
      obtain ⟨bd2, od2, e2, _, d1⟩ := hD.int (j := 1) (by simp)
      injection e2 with e2
      injection e2 with e2 e3
      subst e2 e3
      simp only [List.getD_cons_zero, List.getD_cons_succ, Nat.add_zero] at d0 d1
      have HA0 := Lib.hid a0
      have HA1 := Lib.hid a1
      clear hD e a0 a1 hml
      have hk0 : k0 ≤ 1000000 := by have := HC.out.ls; omega
      have hk1 : k1 ≤ 1000000 := by have := HC.out.ls; omega
      clear l0 l1
      by_cases hm0 : m = 0
      · subst hm0
        have HE := Lib.hid (cls_two HB.out HML.out (M := C.b) (fun a ha => by rw [List.eq_nil_of_length_eq_zero HC.out.lb] at ha; cases ha))
        go_wp2_with fail
        go_quiet (fail)
        go_wp2_with fail
        go_ret
        exact ⟨sym_int HE.out, (V3.out.go (bdrewN _ _)).below⟩
      · have e0 : ((m : Int) == 0) = false := beq_no (by omega)
        obtain ⟨p, hp⟩ : ∃ p, m = p + 1 := ⟨m - 1, by omega⟩
        have hw : IntKind.i64.wrap ((m : Int) - 1) = (p : Int) := by rw [IntWalk.i64_in _ (by omega)]; omega
        have hpm : p < m := by omega
        obtain ⟨bb, ob, rfl, hbb, z0⟩ := (HC.out.cb.below V3.out.below).int (j := 0) (by rw [HC.out.lb]; omega)
        obtain ⟨bb2, ob2, e2, _, z1⟩ := (HC.out.cb.below V3.out.below).int (j := p) (by rw [HC.out.lb]; omega)
        injection e2 with e2
        injection e2 with e2 e3
        subst e2 e3
        have F0 := Lib.hid (asc_first HASC.out (by rw [HC.out.lb]; omega))
        have F1 := Lib.hid (asc_last HASC.out (p := p) (by rw [HC.out.lb]; omega))
        obtain ⟨u0, hu0⟩ : ∃ u, C.b.getD 0 0 = u := ⟨_, rfl⟩
        obtain ⟨u1, hu1⟩ : ∃ u, C.b.getD p 0 = u := ⟨_, rfl⟩
        have M0 := Lib.hid (show u0 ∈ C.b by rw [← hu0, getD_at (by rw [HC.out.lb]; omega)]; exact List.getElem_mem _)
        have M1 := Lib.hid (show u1 ∈ C.b by rw [← hu1, getD_at (by rw [HC.out.lb]; omega)]; exact List.getElem_mem _)
        rw [hu0] at z0 F0
        rw [hu1] at z1 F1
        rw [Nat.add_zero] at z0
        have hm1 : 0 < m := by omega
        have hm2 : (0 : Int) < (m : Int) := by omega
        clear hu0 hu1 hp hm0
        by_cases g1 : (k1 : Int) < u0
        · have HE := Lib.hid (cls_two HB.out HML.out (M := C.b) (fun a ha => by have := F0.out a ha; rw [HA1.out]; omega))
          go_wp2_with fail
          go_quiet (fail)
          go_wp2_with fail
          go_ret
          exact ⟨sym_int HE.out, (V3.out.go (bdrewN _ _)).below⟩
        · have HN := Lib.hid (show ¬ ∀ a ∈ C.b, cAt C.s 1 < a from fun h => by have := h u0 M0.out; rw [HA1.out] at this; omega)
          by_cases g2 : u1 ≤ (k0 : Int)
          · have HE := Lib.hid (cls_three HB.out HML.out HN.out ⟨(fun e => by have := M0.out; rw [e] at this; exact absurd this (List.not_mem_nil)), (fun a ha => by have := F1.out a ha; rw [HA0.out]; omega)⟩)
            go_wp2_with fail
            go_quiet (fail)
            go_wp2_with fail
            go_ret
            exact ⟨sym_int HE.out, (V3.out.go (bdrewN _ _)).below⟩
          · have HE := Lib.hid (cls_rest HB.out HML.out HN.out (fun h => by have := h.2 u1 M1.out; rw [HA0.out] at this; omega))
            go_wp2_with fail
            go_quiet (fail)
            go_wp2_with fail
            go_ret
            exact ⟨sym_int HE.out, (V3.out.go (bdrewN _ _)).below⟩
theorem all_next {M : List Int} {k : Nat} {a : Int} (f : Int → Bool) (h : M[k]? = some a) {b b2 : Bool} (hb : b = (M.take k).all f) (h2 : b2 = (b && f a)) : b2 = (M.take (k + 1)).all f := by
  rw [take_snoc h, List.all_append, ← hb, h2]; simp
set_option maxHeartbeats 16000000 in
theorem rclass_any (C : Clu) (A : Option Addr) (n c : Nat) (B : Option Addr) (m d : Nat) (w : World) (hC : CIn w A n B m C) :
    Calls Try.prog 38 #[.agg #[.slice A n c, .slice B m d]] w fun e w' => e = .returned (.int .i64 (clsC C.s C.b)) ∧ Below w.heap.size w w' := by
  have HC := Lib.hid hC
  have hn := hC.hn
  have hm := hC.hm
  have V1 := Lib.hid ((Hp.start w).cbox_new A n c B m d)
  obtain ⟨b0, b1, bg⟩ := V1.out.cbox_at (i := 0) rfl
  clear hC
  go_enter Try.func38, Try.ntmps38
  go_wp2_with fail
  refine (rbeats_any C.s n c A _ HC.out.ls (by omega) (HC.out.cs.below V1.out.below)).mono ?_
  rintro e w1 ⟨rfl, hb1⟩
  have V2 := Lib.hid (V1.out.go hb1)
  clear hb1 b0 b1 bg
  obtain ⟨b0, b1, bg⟩ := V2.out.cbox_at (i := 0) rfl
  obtain ⟨t, ht⟩ : ∃ t, btL C.s = t := ⟨_, rfl⟩
  have HT := Lib.hid ht
  rw [ht]
  clear ht
  by_cases h1 : t ≤ 1
  · have HE := Lib.hid (cls_one (M := C.b) (show btL C.s ≤ 1 by rw [HT.out]; exact h1))
    go_wp2_with fail
    go_ret
    exact ⟨sym_int HE.out, V2.out.below⟩
  · have HB := Lib.hid (show ¬ btL C.s ≤ 1 by rw [HT.out]; exact h1)
    go_wp2_with fail
    refine (rcore_any C.s n c A B m d _ HC.out.ls hn (HC.out.cs.below V2.out.below)).mono ?_
    rintro e w2 ⟨D, q, f, rfl, hq, hp2⟩
    have V3 := Lib.hid (V2.out.join hp2)
    have HQ := Lib.hid hq
    have HD := Lib.hid (hp2.cells (i := 0) (A := D) (c := f) rfl rfl)
    clear hp2 hq b0 b1 bg
    obtain ⟨b0, b1, bg⟩ := V3.out.cbox_at (i := 1) rfl
    by_cases h2 : q = 2
    · subst h2
      obtain ⟨k0, k1, x, y, e, l0, l1, hx, hy, hmm, a0, a1⟩ := core_two HQ.out.symm
      have hD := HD.out
      rw [e] at hD
      obtain ⟨bd, od, rfl, hbd, d0⟩ := hD.int (j := 0) (by simp)
      obtain ⟨bd2, od2, e2, _, d1⟩ := hD.int (j := 1) (by simp)
      injection e2 with e2
      injection e2 with e2 e3
      subst e2 e3
      simp only [List.getD_cons_zero, List.getD_cons_succ, Nat.add_zero] at d0 d1
      obtain ⟨bs1, os1, rfl, hbs, x0, _, _⟩ := (HC.out.cs.below V3.out.below).snd hx
      obtain ⟨bs2, os2, e2, _, y0, _, _⟩ := (HC.out.cs.below V3.out.below).snd hy
      injection e2 with e2
      injection e2 with e2 e3
      subst e2 e3
      have HA0 := Lib.hid a0
      have HA1 := Lib.hid a1
      have HM := Lib.hid hmm
      have hk0 : k0 < n := by have := HC.out.ls; omega
      have hk1 : k1 < n := by have := HC.out.ls; omega
      have E2 := Lib.hid e
      clear hD e a0 a1 hmm hx hy l0 l1
      by_cases h3 : x.k = 3
      · have e3 : (x.k != 3) = false := bne_no h3
        by_cases h4 : y.k = 4
        · have e4 : (y.k != 4) = false := bne_no h4
          have HML := Lib.hid (show mlB C.s = true by rw [HM.out, beq_yes h3, beq_yes h4]; rfl)
          clear h3 h4
          have V4 := Lib.hid (show ∀ nq nr, Hp w [nums (some ⟨bd, od, none⟩) 2 f (cpI C.s), cbox w.heap.size (some ⟨bs1, os1, none⟩) n c B m d] ((w2.drewN nq).drewN nr) from fun nq nr => (V3.out.go (bdrewN _ nq)).go (bdrewN _ nr))
          go_wp2_with fail
          go_quiet (fail)
          go_wp2_with fail
          go_quiet (fail)
          go_wp2_with fail
          go_loopw [4, 5, 6] (fun v u i wr => ∃ (k : Nat) (p q : Bool), k ≤ m ∧ v = .bool p ∧ u = .bool q ∧ i = .int .i64 k ∧ p = (C.b.take k).all (fun a => decide ((k1 : Int) < a)) ∧ q = (decide (0 < m) && (C.b.take k).all (fun a => decide (a ≤ (k0 : Int)))) ∧ Hp w [nums (some ⟨bd, od, none⟩) 2 f (cpI C.s), cbox w.heap.size (some ⟨bs1, os1, none⟩) n c B m d] wr) (fun _ _ i _ => m - (intOf i).toNat)
          case atStart => exact ⟨0, true, decide (0 < m), Nat.zero_le _, rfl, rfl, rfl, rfl, by simp, V4.out _ _⟩
          case round =>
            obtain ⟨k, p, q, hk, rfl, rfl, rfl, hp, hq, V0⟩ := hrel
            have V := Lib.hid V0
            have HP := Lib.hid hp
            have HQ2 := Lib.hid hq
            clear V0 hp hq b0 b1 bg d0 d1
            obtain ⟨b0, b1, bg⟩ := V.out.cbox_at (i := 1) rfl
            have hD := V.out.cells (i := 0) (A := some ⟨bd, od, none⟩) (c := f) rfl rfl
            rw [show (nums (some ⟨bd, od, none⟩) 2 f (cpI C.s)).xs = ints (cpI C.s) from rfl, E2.out] at hD
            obtain ⟨bd3, od3, e5, hbd3, d0⟩ := hD.int (j := 0) (by simp)
            obtain ⟨bd4, od4, e6, _, d1⟩ := hD.int (j := 1) (by simp)
            injection e5 with e5
            injection e5 with e5 e7
            subst e5 e7
            injection e6 with e6
            injection e6 with e6 e7
            subst e6 e7
            simp only [List.getD_cons_zero, List.getD_cons_succ, Nat.add_zero] at d0 d1
            clear hD
            by_cases hlt : k < m
            · obtain ⟨bb, ob, rfl, hbb, z0⟩ := (HC.out.cb.below V.out.below).int (j := k) (by rw [HC.out.lb]; omega)
              obtain ⟨a, ha⟩ : ∃ a, C.b.getD k 0 = a := ⟨_, rfl⟩
              rw [ha] at z0
              have HAT := Lib.hid (show C.b[k]? = some a by rw [← ha, getD_at (by rw [HC.out.lb]; omega)]; exact List.getElem?_eq_getElem (by rw [HC.out.lb]; omega))
              have V5 := Lib.hid (show ∀ nq, Hp w [nums (some ⟨bd, od, none⟩) 2 f (cpI C.s), cbox w.heap.size (some ⟨bs1, os1, none⟩) n c (some ⟨bb, ob, none⟩) m d] (wr.drewN nq) from fun nq => V.out.go (bdrewN _ nq))
              clear ha
              cases p with
              | true =>
                by_cases g1 : (k1 : Int) < a
                · skip
                  cases q with
                  | true =>
                    by_cases g2 : a ≤ (k0 : Int)
                    · skip
                      have NP := Lib.hid (show true = (C.b.take (k + 1)).all (fun a => decide ((k1 : Int) < a)) from all_next _ HAT.out HP.out (by simp [g1]))
                      have NQ := Lib.hid (show true = (decide (0 < m) && (C.b.take (k + 1)).all (fun a => decide (a ≤ (k0 : Int)))) by
                        rw [take_snoc HAT.out, List.all_append, ← Bool.and_assoc, ← HQ2.out]; simp [g2])
                      go_wp2_with fail
                      go_quiet (fail)
                      go_wp2_with fail
                      go_quiet (fail)
                      go_wp2_with fail
                      go_roundw
                      case rel => exact ⟨k + 1, true, true, by omega, by first | rfl | (congr 1; exact decide_eq_true (by omega)) | (congr 1; exact decide_eq_false (by omega)), by first | rfl | (congr 1; exact decide_eq_true (by omega)) | (congr 1; exact decide_eq_false (by omega)), by go_num, NP.out, NQ.out, V5.out _⟩
                      case measure => simp [intOf]; omega
                    · skip
                      have NP := Lib.hid (show true = (C.b.take (k + 1)).all (fun a => decide ((k1 : Int) < a)) from all_next _ HAT.out HP.out (by simp [g1]))
                      have NQ := Lib.hid (show false = (decide (0 < m) && (C.b.take (k + 1)).all (fun a => decide (a ≤ (k0 : Int)))) by
                        rw [take_snoc HAT.out, List.all_append, ← Bool.and_assoc, ← HQ2.out]; simp [g2])
                      go_wp2_with fail
                      go_quiet (fail)
                      go_wp2_with fail
                      go_quiet (fail)
                      go_wp2_with fail
                      go_roundw
                      case rel => exact ⟨k + 1, true, false, by omega, by first | rfl | (congr 1; exact decide_eq_true (by omega)) | (congr 1; exact decide_eq_false (by omega)), by first | rfl | (congr 1; exact decide_eq_true (by omega)) | (congr 1; exact decide_eq_false (by omega)), by go_num, NP.out, NQ.out, V5.out _⟩
                      case measure => simp [intOf]; omega
                  | false =>
                    have NP := Lib.hid (show true = (C.b.take (k + 1)).all (fun a => decide ((k1 : Int) < a)) from all_next _ HAT.out HP.out (by simp [g1]))
                    have NQ := Lib.hid (show false = (decide (0 < m) && (C.b.take (k + 1)).all (fun a => decide (a ≤ (k0 : Int)))) by
                      rw [take_snoc HAT.out, List.all_append, ← Bool.and_assoc, ← HQ2.out]; simp)
                    go_wp2_with fail
                    go_quiet (fail)
                    go_wp2_with fail
                    go_quiet (fail)
                    go_wp2_with fail
                    go_roundw
                    case rel => exact ⟨k + 1, true, false, by omega, by first | rfl | (congr 1; exact decide_eq_true (by omega)) | (congr 1; exact decide_eq_false (by omega)), by first | rfl | (congr 1; exact decide_eq_true (by omega)) | (congr 1; exact decide_eq_false (by omega)), by go_num, NP.out, NQ.out, V5.out _⟩
                    case measure => simp [intOf]; omega
                · skip
                  cases q with
                  | true =>
                    by_cases g2 : a ≤ (k0 : Int)
                    · skip
                      have NP := Lib.hid (show false = (C.b.take (k + 1)).all (fun a => decide ((k1 : Int) < a)) from all_next _ HAT.out HP.out (by simp [g1]))
                      have NQ := Lib.hid (show true = (decide (0 < m) && (C.b.take (k + 1)).all (fun a => decide (a ≤ (k0 : Int)))) by
                        rw [take_snoc HAT.out, List.all_append, ← Bool.and_assoc, ← HQ2.out]; simp [g2])
                      go_wp2_with fail
                      go_quiet (fail)
                      go_wp2_with fail
                      go_quiet (fail)
                      go_wp2_with fail
                      go_roundw
                      case rel => exact ⟨k + 1, false, true, by omega, by first | rfl | (congr 1; exact decide_eq_true (by omega)) | (congr 1; exact decide_eq_false (by omega)), by first | rfl | (congr 1; exact decide_eq_true (by omega)) | (congr 1; exact decide_eq_false (by omega)), by go_num, NP.out, NQ.out, V5.out _⟩
                      case measure => simp [intOf]; omega
                    · skip
                      have NP := Lib.hid (show false = (C.b.take (k + 1)).all (fun a => decide ((k1 : Int) < a)) from all_next _ HAT.out HP.out (by simp [g1]))
                      have NQ := Lib.hid (show false = (decide (0 < m) && (C.b.take (k + 1)).all (fun a => decide (a ≤ (k0 : Int)))) by
                        rw [take_snoc HAT.out, List.all_append, ← Bool.and_assoc, ← HQ2.out]; simp [g2])
                      go_wp2_with fail
                      go_quiet (fail)
                      go_wp2_with fail
                      go_quiet (fail)
                      go_wp2_with fail
                      go_roundw
                      case rel => exact ⟨k + 1, false, false, by omega, by first | rfl | (congr 1; exact decide_eq_true (by omega)) | (congr 1; exact decide_eq_false (by omega)), by first | rfl | (congr 1; exact decide_eq_true (by omega)) | (congr 1; exact decide_eq_false (by omega)), by go_num, NP.out, NQ.out, V5.out _⟩
                      case measure => simp [intOf]; omega
                  | false =>
                    have NP := Lib.hid (show false = (C.b.take (k + 1)).all (fun a => decide ((k1 : Int) < a)) from all_next _ HAT.out HP.out (by simp [g1]))
                    have NQ := Lib.hid (show false = (decide (0 < m) && (C.b.take (k + 1)).all (fun a => decide (a ≤ (k0 : Int)))) by
                      rw [take_snoc HAT.out, List.all_append, ← Bool.and_assoc, ← HQ2.out]; simp)
                    go_wp2_with fail
                    go_quiet (fail)
                    go_wp2_with fail
                    go_quiet (fail)
                    go_wp2_with fail
                    go_roundw
                    case rel => exact ⟨k + 1, false, false, by omega, by first | rfl | (congr 1; exact decide_eq_true (by omega)) | (congr 1; exact decide_eq_false (by omega)), by first | rfl | (congr 1; exact decide_eq_true (by omega)) | (congr 1; exact decide_eq_false (by omega)), by go_num, NP.out, NQ.out, V5.out _⟩
                    case measure => simp [intOf]; omega
              | false =>
                cases q with
                | true =>
                  by_cases g2 : a ≤ (k0 : Int)
                  · skip
                    have NP := Lib.hid (show false = (C.b.take (k + 1)).all (fun a => decide ((k1 : Int) < a)) from all_next _ HAT.out HP.out (by simp))
                    have NQ := Lib.hid (show true = (decide (0 < m) && (C.b.take (k + 1)).all (fun a => decide (a ≤ (k0 : Int)))) by
                      rw [take_snoc HAT.out, List.all_append, ← Bool.and_assoc, ← HQ2.out]; simp [g2])
                    go_wp2_with fail
                    go_quiet (fail)
                    go_wp2_with fail
                    go_quiet (fail)
                    go_wp2_with fail
                    go_roundw
                    case rel => exact ⟨k + 1, false, true, by omega, by first | rfl | (congr 1; exact decide_eq_true (by omega)) | (congr 1; exact decide_eq_false (by omega)), by first | rfl | (congr 1; exact decide_eq_true (by omega)) | (congr 1; exact decide_eq_false (by omega)), by go_num, NP.out, NQ.out, V5.out _⟩
                    case measure => simp [intOf]; omega
                  · skip
                    have NP := Lib.hid (show false = (C.b.take (k + 1)).all (fun a => decide ((k1 : Int) < a)) from all_next _ HAT.out HP.out (by simp))
                    have NQ := Lib.hid (show false = (decide (0 < m) && (C.b.take (k + 1)).all (fun a => decide (a ≤ (k0 : Int)))) by
                      rw [take_snoc HAT.out, List.all_append, ← Bool.and_assoc, ← HQ2.out]; simp [g2])
                    go_wp2_with fail
                    go_quiet (fail)
                    go_wp2_with fail
                    go_quiet (fail)
                    go_wp2_with fail
                    go_roundw
                    case rel => exact ⟨k + 1, false, false, by omega, by first | rfl | (congr 1; exact decide_eq_true (by omega)) | (congr 1; exact decide_eq_false (by omega)), by first | rfl | (congr 1; exact decide_eq_true (by omega)) | (congr 1; exact decide_eq_false (by omega)), by go_num, NP.out, NQ.out, V5.out _⟩
                    case measure => simp [intOf]; omega
                | false =>
                  have NP := Lib.hid (show false = (C.b.take (k + 1)).all (fun a => decide ((k1 : Int) < a)) from all_next _ HAT.out HP.out (by simp))
                  have NQ := Lib.hid (show false = (decide (0 < m) && (C.b.take (k + 1)).all (fun a => decide (a ≤ (k0 : Int)))) by
                    rw [take_snoc HAT.out, List.all_append, ← Bool.and_assoc, ← HQ2.out]; simp)
                  go_wp2_with fail
                  go_quiet (fail)
                  go_wp2_with fail
                  go_quiet (fail)
                  go_wp2_with fail
                  go_roundw
                  case rel => exact ⟨k + 1, false, false, by omega, by first | rfl | (congr 1; exact decide_eq_true (by omega)) | (congr 1; exact decide_eq_false (by omega)), by first | rfl | (congr 1; exact decide_eq_true (by omega)) | (congr 1; exact decide_eq_false (by omega)), by go_num, NP.out, NQ.out, V5.out _⟩
                  case measure => simp [intOf]; omega
            · have HT := Lib.hid (show C.b.take k = C.b from take_all (by rw [HC.out.lb]; omega))
              cases p with
              | true =>
                have HE := Lib.hid (cls_two HB.out HML.out (M := C.b) (fun a ha => by
                  have := HP.out; rw [HT.out] at this
                  have := List.all_eq_true.1 this.symm a ha
                  rw [HA1.out]; simpa using this))
                go_wp2_with fail
                go_ret
                exact ⟨sym_int HE.out, V.out.below⟩
              | false =>
                have HN := Lib.hid (show ¬ ∀ a ∈ C.b, cAt C.s 1 < a from fun h => by
                  have := HP.out; rw [HT.out] at this
                  have h2 : C.b.all (fun a => decide ((k1 : Int) < a)) = true := List.all_eq_true.2 fun a ha => by have := h a ha; rw [HA1.out] at this; simpa using this
                  rw [h2] at this; cases this)
                cases q with
                | true =>
                  have HE := Lib.hid (cls_three HB.out HML.out HN.out (by
                    have := HQ2.out; rw [HT.out] at this
                    have h2 := this.symm
                    rw [Bool.and_eq_true] at h2
                    refine ⟨fun e => ?_, fun a ha => ?_⟩
                    · have h3 := HC.out.lb
                      rw [e] at h3
                      have h4 := of_decide_eq_true h2.1
                      rw [← h3] at h4
                      exact absurd h4 (Nat.lt_irrefl _)
                    · have h3 := List.all_eq_true.1 h2.2 a ha
                      rw [HA0.out]; simpa using h3))
                  go_wp2_with fail
                  go_ret
                  exact ⟨sym_int HE.out, V.out.below⟩
                | false =>
                  have HE := Lib.hid (cls_rest HB.out HML.out HN.out (fun h => by
                    have := HQ2.out; rw [HT.out] at this
                    have h2 : C.b.all (fun a => decide (a ≤ (k0 : Int))) = true := List.all_eq_true.2 fun a ha => by have := h.2 a ha; rw [HA0.out] at this; simpa using this
                    have h3 : 0 < m := by
                      rw [← HC.out.lb]
                      exact List.length_pos_iff.2 h.1
                    rw [h2, decide_eq_true h3] at this; cases this))
                  go_wp2_with fail
                  go_ret
                  exact ⟨sym_int HE.out, V.out.below⟩
        · have e4 : (y.k != 4) = true := bne_yes h4
          have HE := Lib.hid (cls_nml (M := C.b) HB.out (show mlB C.s = false by rw [HM.out, beq_no h4, Bool.and_false]))
          clear h3 h4
          go_wp2_with fail
          go_quiet (fail)
          go_wp2_with fail
          go_ret
          exact ⟨sym_int HE.out, (V3.out.go (bdrewN _ _)).below⟩
      · have e3 : (x.k != 3) = true := bne_yes h3
        have HE := Lib.hid (cls_nml (M := C.b) HB.out (show mlB C.s = false by rw [HM.out, beq_no h3, Bool.false_and]))
        clear h3
        go_wp2_with fail
        go_quiet (fail)
        go_wp2_with fail
        go_ret
        exact ⟨sym_int HE.out, (V3.out.go (bdrewN _ _)).below⟩
    · have HE := Lib.hid (cls_nml (M := C.b) HB.out (mlB_no (by rw [← cpI_len, ← HQ.out]; exact h2)))
      have e2 : ((q : Int) != 2) = true := bne_yes (by omega)
      go_wp2_with fail
      go_quiet (fail)
      go_wp2_with fail
      go_ret
      exact ⟨sym_int HE.out, (V3.out.go (bdrewN _ _)).below⟩
end Go.Proofs.Ythcdbhancfpldaa
