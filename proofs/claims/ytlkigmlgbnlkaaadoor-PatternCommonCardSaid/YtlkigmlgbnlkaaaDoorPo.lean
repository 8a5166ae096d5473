/- What the statements about the lattice of patterns answer: true, whatever the input. -/
import Derived.Test.YtlkigmlgbnlkaaaDoorPn
namespace Go.Proofs.YtlkigmlgbnlkaaaDoor
open Go.RowKit
set_option linter.unusedVariables false

theorem joinB_comm (a b : UInt8) : joinB a b = joinB b a := by
  unfold joinB
  by_cases h : a = b
  · subst h; rfl
  · rw [if_neg h, if_neg (fun e => h e.symm)]
theorem joinB_assoc (a b c : UInt8) : joinB (joinB a b) c = joinB a (joinB b c) := by
  unfold joinB
  by_cases h : a = b
  · subst h
    rw [if_pos rfl]
    by_cases h2 : a = c
    · subst h2; simp
    · rw [if_neg h2]; split <;> simp_all
  · rw [if_neg h]
    by_cases h2 : b = c
    · subst h2; rw [if_pos rfl, if_neg h]; split <;> simp_all
    · rw [if_neg h2]; split <;> split <;> simp_all
theorem meetB_join (a b : UInt8) : meetB a (joinB a b) = a ∧ agB a (joinB a b) = true := by
  unfold meetB joinB agB
  by_cases h : a = b
  · subst h; simp
  · rw [if_neg h]
    constructor
    · split <;> simp_all
    · simp
theorem meetB_comm {a b : UInt8} (h : agB a b = true) : meetB a b = meetB b a := by
  unfold agB at h
  unfold meetB
  simp at h
  split <;> split <;> simp_all
theorem agB_comm (a b : UInt8) : agB a b = agB b a := by
  unfold agB
  rw [Bool.eq_iff_iff]
  simp
  constructor
  · rintro ((h | h) | h)
    · exact .inl (.inl h.symm)
    · exact .inr h
    · exact .inl (.inr h)
  · rintro ((h | h) | h)
    · exact .inl (.inl h.symm)
    · exact .inr h
    · exact .inl (.inr h)
theorem joinB_meet {a b : UInt8} (h : agB a b = true) : joinB a (meetB a b) = a := by
  unfold agB at h
  unfold meetB joinB
  simp at h
  split <;> split <;> simp_all
theorem joinB_sign {a b : UInt8} (ha : isS a = true) : isS (joinB a b) = true := by
  unfold joinB; split
  · exact ha
  · decide
theorem meetB_sign {a b : UInt8} (ha : isS a = true) (hb : isS b = true) : isS (meetB a b) = true := by
  unfold meetB; split
  · exact hb
  · exact ha
theorem zip_sign {F : UInt8 → UInt8 → UInt8} (hF : ∀ a b, isS a = true → isS b = true → isS (F a b) = true) : ∀ {p q : List UInt8}, p.all isS = true → q.all isS = true → (List.zipWith F p q).all isS = true
  | [], _, _, _ => by simp
  | _ :: _, [], _, _ => by simp
  | a :: p, b :: q, h1, h2 => by
    simp only [List.all_cons, Bool.and_eq_true] at h1 h2
    simp only [List.zipWith_cons_cons, List.all_cons, Bool.and_eq_true]
    exact ⟨hF a b h1.1 h2.1, zip_sign hF h1.2 h2.2⟩
theorem zip_ok {F : UInt8 → UInt8 → UInt8} (hF : ∀ a b, isS a = true → isS b = true → isS (F a b) = true) {p q : List UInt8} (h1 : pErr p = 0) (h2 : pErr q = 0) (hl : p.length = q.length) :
    pErr (List.zipWith F p q) = 0 ∧ (List.zipWith F p q).length = p.length := by
  have hl2 : (List.zipWith F p q).length = p.length := by rw [List.length_zipWith]; omega
  exact ⟨pErr_ok (by rw [hl2]; exact (pErr_zero h1).1) (zip_sign hF (pErr_zero h1).2 (pErr_zero h2).2), hl2⟩
theorem join_valid {p q : List UInt8} (h1 : pErr p = 0) (h2 : pErr q = 0) (hl : p.length = q.length) : pErr (List.zipWith joinB p q) = 0 ∧ (List.zipWith joinB p q).length = p.length :=
  zip_ok (fun a b ha _ => joinB_sign ha) h1 h2 hl
theorem meet_valid {p q : List UInt8} (h1 : pErr p = 0) (h2 : pErr q = 0) (hl : p.length = q.length) : pErr (List.zipWith meetB p q) = 0 ∧ (List.zipWith meetB p q).length = p.length :=
  zip_ok (fun a b ha hb => meetB_sign ha hb) h1 h2 hl
theorem zipj_comm : ∀ p q : List UInt8, List.zipWith joinB p q = List.zipWith joinB q p
  | [], [] => rfl
  | [], _ :: _ => rfl
  | _ :: _, [] => rfl
  | a :: p, b :: q => by rw [List.zipWith_cons_cons, List.zipWith_cons_cons, joinB_comm, zipj_comm p q]
theorem zipj_assoc : ∀ p q r : List UInt8, List.zipWith joinB (List.zipWith joinB p q) r = List.zipWith joinB p (List.zipWith joinB q r)
  | [], _, _ => by simp
  | _ :: _, [], _ => by simp
  | _ :: _, _ :: _, [] => by simp
  | a :: p, b :: q, c :: r => by simp only [List.zipWith_cons_cons, joinB_assoc, zipj_assoc p q r]
theorem absorb_meet : ∀ p q : List UInt8, p.length = q.length → List.zipWith meetB p (List.zipWith joinB p q) = p ∧ agL p (List.zipWith joinB p q) = true
  | [], [], _ => by simp [agL]
  | [], _ :: _, h => by simp at h
  | _ :: _, [], h => by simp at h
  | a :: p, b :: q, h => by
    obtain ⟨i1, i2⟩ := absorb_meet p q (by simpa using h)
    obtain ⟨j1, j2⟩ := meetB_join a b
    rw [List.zipWith_cons_cons, List.zipWith_cons_cons, i1, j1]
    exact ⟨rfl, by unfold agL; rw [i2, j2]; rfl⟩
theorem agL_comm : ∀ p q : List UInt8, agL p q = agL q p
  | [], [] => rfl
  | [], _ :: _ => rfl
  | _ :: _, [] => rfl
  | a :: p, b :: q => by unfold agL; rw [agB_comm, agL_comm p q]
theorem zipm_comm : ∀ p q : List UInt8, agL p q = true → List.zipWith meetB p q = List.zipWith meetB q p
  | [], [], _ => rfl
  | [], _ :: _, _ => rfl
  | _ :: _, [], _ => rfl
  | a :: p, b :: q, h => by
    unfold agL at h
    rw [Bool.and_eq_true] at h
    rw [List.zipWith_cons_cons, List.zipWith_cons_cons, meetB_comm h.1, zipm_comm p q h.2]
theorem absorb_join : ∀ p q : List UInt8, p.length = q.length → agL p q = true → List.zipWith joinB p (List.zipWith meetB p q) = p
  | [], [], _, _ => rfl
  | [], _ :: _, h, _ => by simp at h
  | _ :: _, [], h, _ => by simp at h
  | a :: p, b :: q, h, hg => by
    unfold agL at hg
    rw [Bool.and_eq_true] at hg
    rw [List.zipWith_cons_cons, List.zipWith_cons_cons, joinB_meet hg.1, absorb_join p q (by simpa using h) hg.2]
theorem join_is {p q : List UInt8} (h1 : pErr p = 0) (h2 : pErr q = 0) (hl : p.length = q.length) : joinVal p q = (List.zipWith joinB p q, 0) := join_ok (pair_ok h1 h2 hl)
theorem match_is {p q : List UInt8} (h1 : pErr p = 0) (h2 : pErr q = 0) (hl : p.length = q.length) : matchV p q = agL p q := by
  cases h : agL p q with
  | true => exact match_yes (pair_ok h1 h2 hl) h
  | false => exact match_no (pair_ok h1 h2 hl) h

theorem pjoin_is {p q j : ByteArray} {x : Int} (w : World) (hp : p.size ≤ maxLen) (hq : q.size ≤ maxLen) (h : joinVal p.data.toList q.data.toList = (j.data.toList, x)) :
    Calls Tryd.prog 26 #[.string p, .string q] w fun e w' => e = .returned (.tuple #[.string j, .int .i64 x]) ∧ Below w.heap.size w w' := by
  refine (pjoin_any p q w hp hq).mono fun e w' ⟨he, hb⟩ => ⟨?_, hb⟩
  rw [he, h]
theorem pmeet_is {p q j : ByteArray} {x : Int} (w : World) (hp : p.size ≤ maxLen) (hq : q.size ≤ maxLen) (h : meetVal p.data.toList q.data.toList = (j.data.toList, x)) :
    Calls Tryd.prog 24 #[.string p, .string q] w fun e w' => e = .returned (.tuple #[.string j, .int .i64 x]) ∧ Below w.heap.size w w' := by
  refine (pmeet_any p q w hp hq).mono fun e w' ⟨he, hb⟩ => ⟨?_, hb⟩
  rw [he, h]
theorem pmatch_is {p q : ByteArray} {b : Bool} (w : World) (hp : p.size ≤ maxLen) (hq : q.size ≤ maxLen) (h : matchV p.data.toList q.data.toList = b) :
    Calls Tryd.prog 28 #[.string p, .string q] w fun e w' => e = .returned (.bool b) ∧ Below w.heap.size w w' := by
  refine (pmatch_any p q w hp hq).mono fun e w' ⟨he, hb⟩ => ⟨?_, hb⟩
  rw [he, h]
theorem rvalid_is {p : ByteArray} {x : Int} (w : World) (hp : p.size ≤ maxLen) (h : x = pErr p.data.toList) :
    Calls Tryd.prog 17 #[.string p] w fun e w' => e = .returned (.int .i64 x) ∧ w = w' := by
  rw [h]; exact rvalid_any p w hp
theorem size_max {p : ByteArray} (h : pErr p.data.toList = 0) : p.size ≤ 60 := (pErr_zero h).1

set_option maxRecDepth 100000 in
set_option maxHeartbeats 8000000 in
theorem lawlattice_any (p q r : ByteArray) (w : World) (hp : p.size ≤ maxLen) (hq : q.size ≤ maxLen) (hr : r.size ≤ maxLen) (hm : MaxAt w) :
    Calls Tryd.prog 9 #[.string p, .string q, .string r] w fun e w' => e = .returned (.bool true) ∧ Below w.heap.size w w' := by
  have HM := Lib.hid hm
  clear hm
  obtain ⟨x, hx⟩ : ∃ x, x = pErr p.data.toList := ⟨_, rfl⟩
  obtain ⟨y, hy⟩ : ∃ y, y = pErr q.data.toList := ⟨_, rfl⟩
  obtain ⟨z, hz⟩ : ∃ z, z = pErr r.data.toList := ⟨_, rfl⟩
  have HX := Lib.hid hx
  have HY := Lib.hid hy
  have HZ := Lib.hid hz
  clear hx hy hz
  by_cases h0 : x ≠ 0
  · have hf1 : (x == 0) = false := by simp [h0]
    have hf2 : (x != 0) = true := by simp [h0]
    clear h0
    go_enter Tryd.func9, Tryd.ntmps9
    go_wp2_with fail
    refine (awake_any _ HM.out).mono ?_
    rintro e w1 ⟨rfl, hb1⟩
    go_wp2_with fail
    refine (rvalid_is _ hp HX.out).mono ?_
    rintro e w' ⟨rfl, rfl⟩
    go_wp2_with fail
    refine (awake_any _ (HM.out.below hb1)).mono ?_
    rintro e w2 ⟨rfl, hb2⟩
    go_wp2_with fail
    go_ret
    exact ⟨rfl, btwo hb1 hb2⟩
  have hx0 : x = 0 := by omega
  subst hx0
  clear h0
  by_cases h0 : y ≠ 0
  · have hf1 : (y == 0) = false := by simp [h0]
    have hf2 : (y != 0) = true := by simp [h0]
    clear h0
    go_enter Tryd.func9, Tryd.ntmps9
    go_wp2_with fail
    refine (awake_any _ HM.out).mono ?_
    rintro e w1 ⟨rfl, hb1⟩
    go_wp2_with fail
    refine (rvalid_is _ hp HX.out).mono ?_
    rintro e w' ⟨rfl, rfl⟩
    go_wp2_with fail
    refine (rvalid_is _ hq HY.out).mono ?_
    rintro e w' ⟨rfl, rfl⟩
    go_wp2_with fail
    refine (awake_any _ (HM.out.below hb1)).mono ?_
    rintro e w2 ⟨rfl, hb2⟩
    go_wp2_with fail
    go_ret
    exact ⟨rfl, btwo hb1 hb2⟩
  have hy0 : y = 0 := by omega
  subst hy0
  clear h0
  by_cases h0 : z ≠ 0
  · have hf1 : (z == 0) = false := by simp [h0]
    have hf2 : (z != 0) = true := by simp [h0]
    clear h0
    go_enter Tryd.func9, Tryd.ntmps9
    go_wp2_with fail
    refine (awake_any _ HM.out).mono ?_
    rintro e w1 ⟨rfl, hb1⟩
    go_wp2_with fail
    refine (rvalid_is _ hp HX.out).mono ?_
    rintro e w' ⟨rfl, rfl⟩
    go_wp2_with fail
    refine (rvalid_is _ hq HY.out).mono ?_
    rintro e w' ⟨rfl, rfl⟩
    go_wp2_with fail
    refine (rvalid_is _ hr HZ.out).mono ?_
    rintro e w' ⟨rfl, rfl⟩
    go_wp2_with fail
    refine (awake_any _ (HM.out.below hb1)).mono ?_
    rintro e w2 ⟨rfl, hb2⟩
    go_wp2_with fail
    go_ret
    exact ⟨rfl, btwo hb1 hb2⟩
  have hz0 : z = 0 := by omega
  subst hz0
  clear h0
  by_cases h0 : p.size ≠ q.size
  · have hf1 : ((p.size : Int) == (q.size : Int)) = false := by simp; omega
    have hf2 : ((p.size : Int) != (q.size : Int)) = true := by simp; omega
    clear h0
    go_enter Tryd.func9, Tryd.ntmps9
    go_wp2_with fail
    refine (awake_any _ HM.out).mono ?_
    rintro e w1 ⟨rfl, hb1⟩
    go_wp2_with fail
    refine (rvalid_is _ hp HX.out).mono ?_
    rintro e w' ⟨rfl, rfl⟩
    go_wp2_with fail
    refine (rvalid_is _ hq HY.out).mono ?_
    rintro e w' ⟨rfl, rfl⟩
    go_wp2_with fail
    refine (rvalid_is _ hr HZ.out).mono ?_
    rintro e w' ⟨rfl, rfl⟩
    go_wp2_with fail
    refine (awake_any _ (HM.out.below hb1)).mono ?_
    rintro e w2 ⟨rfl, hb2⟩
    go_wp2_with fail
    go_ret
    exact ⟨rfl, btwo hb1 hb2⟩
  have hpq : p.size = q.size := by omega
  have HPQ := Lib.hid hpq
  have g1 : ((p.size : Int) == (q.size : Int)) = true := by simp; omega
  have g2 : ((p.size : Int) != (q.size : Int)) = false := by simp; omega
  clear h0 hpq
  by_cases h0 : q.size ≠ r.size
  · have hf1 : ((q.size : Int) == (r.size : Int)) = false := by simp; omega
    have hf2 : ((q.size : Int) != (r.size : Int)) = true := by simp; omega
    clear h0
    go_enter Tryd.func9, Tryd.ntmps9
    go_wp2_with fail
    refine (awake_any _ HM.out).mono ?_
    rintro e w1 ⟨rfl, hb1⟩
    go_wp2_with fail
    refine (rvalid_is _ hp HX.out).mono ?_
    rintro e w' ⟨rfl, rfl⟩
    go_wp2_with fail
    refine (rvalid_is _ hq HY.out).mono ?_
    rintro e w' ⟨rfl, rfl⟩
    go_wp2_with fail
    refine (rvalid_is _ hr HZ.out).mono ?_
    rintro e w' ⟨rfl, rfl⟩
    go_wp2_with fail
    refine (awake_any _ (HM.out.below hb1)).mono ?_
    rintro e w2 ⟨rfl, hb2⟩
    go_wp2_with fail
    go_ret
    exact ⟨rfl, btwo hb1 hb2⟩
  have hqr : q.size = r.size := by omega
  have HQR := Lib.hid hqr
  have g3 : ((q.size : Int) == (r.size : Int)) = true := by simp; omega
  have g4 : ((q.size : Int) != (r.size : Int)) = false := by simp; omega
  clear h0 hqr
  obtain ⟨j, hj⟩ : ∃ j : ByteArray, j.data.toList = List.zipWith joinB p.data.toList q.data.toList := ⟨⟨(List.zipWith joinB p.data.toList q.data.toList).toArray⟩, rfl⟩
  obtain ⟨qr, hqr⟩ : ∃ j : ByteArray, j.data.toList = List.zipWith joinB q.data.toList r.data.toList := ⟨⟨(List.zipWith joinB q.data.toList r.data.toList).toArray⟩, rfl⟩
  obtain ⟨le, hle⟩ : ∃ j : ByteArray, j.data.toList = List.zipWith joinB j.data.toList r.data.toList ∨ j.data.toList = List.zipWith joinB (List.zipWith joinB p.data.toList q.data.toList) r.data.toList := ⟨⟨(List.zipWith joinB (List.zipWith joinB p.data.toList q.data.toList) r.data.toList).toArray⟩, .inr rfl⟩
  clear hle
  obtain ⟨le, hle⟩ : ∃ j : ByteArray, j.data.toList = List.zipWith joinB (List.zipWith joinB p.data.toList q.data.toList) r.data.toList := ⟨⟨(List.zipWith joinB (List.zipWith joinB p.data.toList q.data.toList) r.data.toList).toArray⟩, rfl⟩
  have vp : pErr p.data.toList = 0 := HX.out.symm
  have vq : pErr q.data.toList = 0 := HY.out.symm
  have vr : pErr r.data.toList = 0 := HZ.out.symm
  have lpq : p.data.toList.length = q.data.toList.length := HPQ.out
  have lqr : q.data.toList.length = r.data.toList.length := HQR.out
  obtain ⟨vj, lj⟩ := join_valid vp vq lpq
  obtain ⟨vqr, lqr2⟩ := join_valid vq vr lqr
  have hjm : j.size ≤ maxLen := by
    have h : j.size = j.data.toList.length := rfl
    rw [h, hj, lj]; exact hp
  have hqrm : qr.size ≤ maxLen := by
    have h : qr.size = qr.data.toList.length := rfl
    rw [h, hqr, lqr2]; exact hq
  have C1 := Lib.hid (show joinVal p.data.toList q.data.toList = (j.data.toList, 0) by rw [hj]; exact join_is vp vq lpq)
  have C2 := Lib.hid (show joinVal q.data.toList p.data.toList = (j.data.toList, 0) by rw [hj, zipj_comm]; exact join_is vq vp lpq.symm)
  have C3 := Lib.hid (show meetVal p.data.toList j.data.toList = (p.data.toList, 0) by
    obtain ⟨i1, i2⟩ := absorb_meet _ _ lpq
    rw [hj, meet_ok (pair_ok vp vj lj.symm) i2, i1])
  have C4 := Lib.hid (show joinVal j.data.toList r.data.toList = (le.data.toList, 0) by rw [hj, hle]; exact join_is vj vr (by rw [lj]; exact lpq.trans lqr))
  have C5 := Lib.hid (show joinVal q.data.toList r.data.toList = (qr.data.toList, 0) by rw [hqr]; exact join_is vq vr lqr)
  have C6 := Lib.hid (show joinVal p.data.toList qr.data.toList = (le.data.toList, 0) by rw [hqr, hle, zipj_assoc]; exact join_is vp vqr (by rw [lqr2]; exact lpq))
  clear hj hqr hle vj lj vqr lqr2
  cases hg : agL p.data.toList q.data.toList with
  | false =>
    have C7 := Lib.hid (show meetVal p.data.toList q.data.toList = ((⟨#[]⟩ : ByteArray).data.toList, 12) from meet_no (pair_ok vp vq lpq) hg)
    have C8 := Lib.hid (show meetVal q.data.toList p.data.toList = ((⟨#[]⟩ : ByteArray).data.toList, 12) from meet_no (pair_ok vq vp lpq.symm) (by rw [agL_comm]; exact hg))
    have C9 := Lib.hid (show matchV p.data.toList q.data.toList = false by rw [match_is vp vq lpq]; exact hg)
    clear hg vp vq vr lpq lqr
    go_enter Tryd.func9, Tryd.ntmps9
    go_wp2_with fail
    refine (awake_any _ HM.out).mono ?_
    rintro e w1 ⟨rfl, hb1⟩
    have HB1 := Lib.hid hb1
    clear hb1
    go_wp2_with fail
    refine (rvalid_is _ hp HX.out).mono ?_
    rintro e w' ⟨rfl, rfl⟩
    go_wp2_with fail
    refine (rvalid_is _ hq HY.out).mono ?_
    rintro e w' ⟨rfl, rfl⟩
    go_wp2_with fail
    refine (rvalid_is _ hr HZ.out).mono ?_
    rintro e w' ⟨rfl, rfl⟩
    go_wp2_with fail
    refine (pjoin_is _ hp hq C1.out).mono ?_
    rintro e w2 ⟨rfl, hb2⟩
    have HB2 := Lib.hid (btwo HB1.out hb2)
    clear hb2
    go_wp2_with fail
    refine (pjoin_is _ hq hp C2.out).mono ?_
    rintro e w3 ⟨rfl, hb3⟩
    have HB3 := Lib.hid (btwo HB2.out hb3)
    clear hb3
    go_wp2_with fail
    refine (pmeet_is _ hp hjm C3.out).mono ?_
    rintro e w4 ⟨rfl, hb4⟩
    have HB4 := Lib.hid (btwo HB3.out hb4)
    clear hb4
    go_wp2_with fail
    refine (pjoin_is _ hjm hr C4.out).mono ?_
    rintro e w5 ⟨rfl, hb5⟩
    have HB5 := Lib.hid (btwo HB4.out hb5)
    clear hb5
    go_wp2_with fail
    refine (pjoin_is _ hq hr C5.out).mono ?_
    rintro e w6 ⟨rfl, hb6⟩
    have HB6 := Lib.hid (btwo HB5.out hb6)
    clear hb6
    go_wp2_with fail
    refine (pjoin_is _ hp hqrm C6.out).mono ?_
    rintro e w7 ⟨rfl, hb7⟩
    have HB7 := Lib.hid (btwo HB6.out hb7)
    clear hb7
    go_wp2_with fail
    refine (pmeet_is (j := ⟨#[]⟩) _ hp hq C7.out).mono ?_
    rintro e w8 ⟨rfl, hb8⟩
    have HB8 := Lib.hid (btwo HB7.out hb8)
    clear hb8
    go_wp2_with fail
    refine (pmeet_is (j := ⟨#[]⟩) _ hq hp C8.out).mono ?_
    rintro e w9 ⟨rfl, hb9⟩
    have HB9 := Lib.hid (btwo HB8.out hb9)
    clear hb9
    go_wp2_with fail
    refine (pmatch_is _ hp hq C9.out).mono ?_
    rintro e w10 ⟨rfl, hb10⟩
    have HB10 := Lib.hid (btwo HB9.out hb10)
    clear hb10
    go_wp2_with fail
    go_ret
    exact ⟨ret_bool (by simp), HB10.out⟩
  | true =>
    obtain ⟨a, ha⟩ : ∃ j : ByteArray, j.data.toList = List.zipWith meetB p.data.toList q.data.toList := ⟨⟨(List.zipWith meetB p.data.toList q.data.toList).toArray⟩, rfl⟩
    obtain ⟨va, la⟩ := meet_valid vp vq lpq
    have ham : a.size ≤ maxLen := by
      have h : a.size = a.data.toList.length := rfl
      rw [h, ha, la]; exact hp
    have C7 := Lib.hid (show meetVal p.data.toList q.data.toList = (a.data.toList, 0) by rw [ha]; exact meet_ok (pair_ok vp vq lpq) hg)
    have C8 := Lib.hid (show meetVal q.data.toList p.data.toList = (a.data.toList, 0) by rw [ha, zipm_comm _ _ hg]; exact meet_ok (pair_ok vq vp lpq.symm) (by rw [agL_comm]; exact hg))
    have C9 := Lib.hid (show joinVal p.data.toList a.data.toList = (p.data.toList, 0) by rw [ha, join_is vp va la.symm, absorb_join _ _ lpq hg])
    clear ha va la hg vp vq vr lpq lqr
    go_enter Tryd.func9, Tryd.ntmps9
    go_wp2_with fail
    refine (awake_any _ HM.out).mono ?_
    rintro e w1 ⟨rfl, hb1⟩
    have HB1 := Lib.hid hb1
    clear hb1
    go_wp2_with fail
    refine (rvalid_is _ hp HX.out).mono ?_
    rintro e w' ⟨rfl, rfl⟩
    go_wp2_with fail
    refine (rvalid_is _ hq HY.out).mono ?_
    rintro e w' ⟨rfl, rfl⟩
    go_wp2_with fail
    refine (rvalid_is _ hr HZ.out).mono ?_
    rintro e w' ⟨rfl, rfl⟩
    go_wp2_with fail
    refine (pjoin_is _ hp hq C1.out).mono ?_
    rintro e w2 ⟨rfl, hb2⟩
    have HB2 := Lib.hid (btwo HB1.out hb2)
    clear hb2
    go_wp2_with fail
    refine (pjoin_is _ hq hp C2.out).mono ?_
    rintro e w3 ⟨rfl, hb3⟩
    have HB3 := Lib.hid (btwo HB2.out hb3)
    clear hb3
    go_wp2_with fail
    refine (pmeet_is _ hp hjm C3.out).mono ?_
    rintro e w4 ⟨rfl, hb4⟩
    have HB4 := Lib.hid (btwo HB3.out hb4)
    clear hb4
    go_wp2_with fail
    refine (pjoin_is _ hjm hr C4.out).mono ?_
    rintro e w5 ⟨rfl, hb5⟩
    have HB5 := Lib.hid (btwo HB4.out hb5)
    clear hb5
    go_wp2_with fail
    refine (pjoin_is _ hq hr C5.out).mono ?_
    rintro e w6 ⟨rfl, hb6⟩
    have HB6 := Lib.hid (btwo HB5.out hb6)
    clear hb6
    go_wp2_with fail
    refine (pjoin_is _ hp hqrm C6.out).mono ?_
    rintro e w7 ⟨rfl, hb7⟩
    have HB7 := Lib.hid (btwo HB6.out hb7)
    clear hb7
    go_wp2_with fail
    refine (pmeet_is _ hp hq C7.out).mono ?_
    rintro e w8 ⟨rfl, hb8⟩
    have HB8 := Lib.hid (btwo HB7.out hb8)
    clear hb8
    go_wp2_with fail
    refine (pmeet_is _ hq hp C8.out).mono ?_
    rintro e w9 ⟨rfl, hb9⟩
    have HB9 := Lib.hid (btwo HB8.out hb9)
    clear hb9
    go_wp2_with fail
    refine (pjoin_is _ hp ham C9.out).mono ?_
    rintro e w10 ⟨rfl, hb10⟩
    have HB10 := Lib.hid (btwo HB9.out hb10)
    clear hb10
    go_wp2_with fail
    go_ret
    exact ⟨ret_bool (by simp), HB10.out⟩
end Go.Proofs.YtlkigmlgbnlkaaaDoor
