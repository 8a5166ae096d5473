/- What the statements about Meet, Join, Match, Compare and Morae answer: true, whatever the input. -/
import Derived.Test.YtlkigmlgbnlkaaaDoorPm
namespace Go.Proofs.YtlkigmlgbnlkaaaDoor
open Go.RowKit
set_option linter.unusedVariables false

theorem int_300 {n : Nat} (h : ¬ 300 < n) : n ≤ 300 := by omega
set_option maxHeartbeats 4000000 in
theorem lawmeet_any (p q : ByteArray) (w : World) (hp : p.size ≤ maxLen) (hq : q.size ≤ maxLen) (hm : MaxAt w) :
    Calls Tryd.prog 5 #[.string p, .string q] w fun e w' => e = .returned (.bool true) ∧ Below w.heap.size w w' := by
  have HM := Lib.hid hm
  clear hm
  by_cases hbig : 300 < p.size ∨ 300 < q.size
  · by_cases h1 : 300 < p.size
    · clear hbig
      go_enter Tryd.func5, Tryd.ntmps5
      go_wp2_with fail
      refine (awake_any _ HM.out).mono ?_
      rintro e w1 ⟨rfl, hb1⟩
      go_wp2_with fail
      refine (awake_any _ (HM.out.below hb1)).mono ?_
      rintro e w2 ⟨rfl, hb2⟩
      go_wp2_with fail
      go_ret
      exact ⟨rfl, btwo hb1 hb2⟩
    · have h2 : 300 < q.size := by omega
      clear hbig
      go_enter Tryd.func5, Tryd.ntmps5
      go_wp2_with fail
      refine (awake_any _ HM.out).mono ?_
      rintro e w1 ⟨rfl, hb1⟩
      go_wp2_with fail
      refine (awake_any _ (HM.out.below hb1)).mono ?_
      rintro e w2 ⟨rfl, hb2⟩
      go_wp2_with fail
      go_ret
      exact ⟨rfl, btwo hb1 hb2⟩
  · have h1 : p.size ≤ 300 := by omega
    have h2 : q.size ≤ 300 := by omega
    clear hbig
    go_enter Tryd.func5, Tryd.ntmps5
    go_wp2_with fail
    refine (awake_any _ HM.out).mono ?_
    rintro e w1 ⟨rfl, hb1⟩
    have HB1 := Lib.hid hb1
    clear hb1
    go_wp2_with fail
    refine (pmeet_any p q _ hp hq).mono ?_
    rintro e w2 ⟨rfl, hb2⟩
    have HB2 := Lib.hid (btwo HB1.out hb2)
    clear hb2
    go_wp2_with fail
    refine (rmeet_any p q _ hp hq).mono ?_
    rintro e w3 ⟨rfl, hb3⟩
    have HB3 := Lib.hid (btwo HB2.out hb3)
    clear hb3
    go_wp2_with fail
    refine (pjoin_any p q _ hp hq).mono ?_
    rintro e w4 ⟨rfl, hb4⟩
    have HB4 := Lib.hid (btwo HB3.out hb4)
    clear hb4
    go_wp2_with fail
    refine (rjoin_any p q _ hp hq).mono ?_
    rintro e w5 ⟨rfl, hb5⟩
    have HB5 := Lib.hid (btwo HB4.out hb5)
    clear hb5
    go_wp2_with fail
    refine (pmatch_any p q _ hp hq).mono ?_
    rintro e w6 ⟨rfl, hb6⟩
    have HB6 := Lib.hid (btwo HB5.out hb6)
    clear hb6
    go_wp2_with fail
    refine (rmatch_any p q _ hp hq).mono ?_
    rintro e w7 ⟨rfl, nd, rfl⟩
    go_wp2_with fail
    go_ret
    exact ⟨ret_bool (by simp), below_drewN HB6.out _⟩

/-! ### Compare is a total order -/
theorem cmpI_neg (x y : Int) : Lib.compareInt y x = - Lib.compareInt x y := by
  unfold Lib.compareInt
  split <;> split <;> (try split) <;> omega
theorem cmpI_val (x y : Int) : Lib.compareInt x y = -1 ∧ x < y ∨ Lib.compareInt x y = 0 ∧ x = y ∨ Lib.compareInt x y = 1 ∧ y < x := by
  unfold Lib.compareInt
  split
  · exact .inl ⟨rfl, by assumption⟩
  · split
    · exact .inr (.inr ⟨rfl, by omega⟩)
    · exact .inr (.inl ⟨rfl, by omega⟩)
theorem cmpR_neg : ∀ p q : List UInt8, cmpR q p = - cmpR p q
  | [], [] => rfl
  | [], _ :: _ => rfl
  | _ :: _, [] => rfl
  | a :: r, b :: s => by
    unfold cmpR
    by_cases h : a = b
    · subst h; rw [if_pos rfl, if_pos rfl]; exact cmpR_neg r s
    · rw [if_neg h, if_neg (fun e => h e.symm)]; exact cmpI_neg _ _
theorem cmpV_neg (p q : List UInt8) : cmpV q p = - cmpV p q := by
  unfold cmpV
  by_cases h : p.length = q.length
  · rw [if_pos h, if_pos h.symm]; exact cmpR_neg p q
  · rw [if_neg h, if_neg (fun e => h e.symm)]; exact cmpI_neg _ _
theorem cmpR_zero : ∀ p q : List UInt8, p.length = q.length → (cmpR p q = 0 ↔ p = q)
  | [], [], _ => by simp [cmpR]
  | [], _ :: _, h => by simp at h
  | _ :: _, [], h => by simp at h
  | a :: r, b :: s, h => by
    unfold cmpR
    by_cases e : a = b
    · subst e; rw [if_pos rfl, cmpR_zero r s (by simpa using h)]; simp
    · rw [if_neg e]
      constructor
      · intro h0; exact absurd (cmp_zero.1 h0) (rk_ne e)
      · intro h0; exact absurd (List.cons.inj h0).1 e
theorem cmpV_zero (p q : List UInt8) : cmpV p q = 0 ↔ p = q := by
  unfold cmpV
  by_cases h : p.length = q.length
  · rw [if_pos h]; exact cmpR_zero p q h
  · rw [if_neg h]
    constructor
    · intro h0; exact absurd (by have := cmp_zero.1 h0; omega) h
    · intro h0; exact absurd (by rw [h0]) h
theorem cmpR_val : ∀ p q : List UInt8, cmpR p q = -1 ∨ cmpR p q = 0 ∨ cmpR p q = 1
  | [], [] => .inr (.inl rfl)
  | [], _ :: _ => .inr (.inl rfl)
  | _ :: _, [] => .inr (.inl rfl)
  | a :: r, b :: s => by
    unfold cmpR
    split
    · exact cmpR_val r s
    · rcases cmpI_val (rk (a.toNat : Int)) (rk (b.toNat : Int)) with h | h | h
      · exact .inl h.1
      · exact .inr (.inl h.1)
      · exact .inr (.inr h.1)
theorem cmpV_val (p q : List UInt8) : cmpV p q = -1 ∨ cmpV p q = 0 ∨ cmpV p q = 1 := by
  unfold cmpV
  split
  · exact cmpR_val p q
  · rcases cmpI_val (p.length : Int) (q.length : Int) with h | h | h
    · exact .inl h.1
    · exact .inr (.inl h.1)
    · exact .inr (.inr h.1)
theorem cmpR_trans : ∀ p q r : List UInt8, p.length = q.length → q.length = r.length → cmpR p q ≤ 0 → cmpR q r ≤ 0 → cmpR p r ≤ 0
  | [], [], [], _, _, _, _ => by simp [cmpR]
  | [], _ :: _, _, h, _, _, _ => by simp at h
  | _ :: _, [], _, h, _, _, _ => by simp at h
  | [], [], _ :: _, _, h, _, _ => by simp at h
  | _ :: _, _ :: _, [], _, h, _, _ => by simp at h
  | a :: p, b :: q, c :: r, h1, h2, h3, h4 => by
    unfold cmpR at h3 h4 ⊢
    by_cases e1 : a = b
    · subst e1
      rw [if_pos rfl] at h3
      by_cases e2 : a = c
      · subst e2
        rw [if_pos rfl] at h4 ⊢
        exact cmpR_trans p q r (by simpa using h1) (by simpa using h2) h3 h4
      · rw [if_neg e2] at h4 ⊢; exact h4
    · rw [if_neg e1] at h3
      by_cases e2 : b = c
      · subst e2
        rw [if_neg e1]; exact h3
      · rw [if_neg e2] at h4
        have k1 : rk (a.toNat : Int) < rk (b.toNat : Int) := by
          rcases cmpI_val (rk (a.toNat : Int)) (rk (b.toNat : Int)) with h | h | h
          · exact h.2
          · exact absurd h.2 (rk_ne e1)
          · rw [h.1] at h3; omega
        have k2 : rk (b.toNat : Int) < rk (c.toNat : Int) := by
          rcases cmpI_val (rk (b.toNat : Int)) (rk (c.toNat : Int)) with h | h | h
          · exact h.2
          · exact absurd h.2 (rk_ne e2)
          · rw [h.1] at h4; omega
        have e3 : a ≠ c := by rintro rfl; omega
        rw [if_neg e3]
        unfold Lib.compareInt
        rw [if_pos (by omega)]; omega
theorem cmpI_le {x y : Int} (h : Lib.compareInt x y ≤ 0) : x ≤ y := by
  rcases cmpI_val x y with g | g | g
  · omega
  · omega
  · rw [g.1] at h; omega
theorem cmpI_of_lt {x y : Int} (h : x < y) : Lib.compareInt x y = -1 := by unfold Lib.compareInt; rw [if_pos h]
theorem cmpV_trans (p q r : List UInt8) (h1 : cmpV p q ≤ 0) (h2 : cmpV q r ≤ 0) : cmpV p r ≤ 0 := by
  unfold cmpV at h1 h2 ⊢
  by_cases e1 : p.length = q.length
  · rw [if_pos e1] at h1
    by_cases e2 : q.length = r.length
    · rw [if_pos e2] at h2
      rw [if_pos (e1.trans e2)]
      exact cmpR_trans p q r e1 e2 h1 h2
    · rw [if_neg e2] at h2
      have := cmpI_le h2
      rw [if_neg (by omega), cmpI_of_lt (by omega)]; omega
  · rw [if_neg e1] at h1
    have k1 := cmpI_le h1
    by_cases e2 : q.length = r.length
    · rw [if_neg (by omega), cmpI_of_lt (by omega)]; omega
    · rw [if_neg e2] at h2
      have := cmpI_le h2
      rw [if_neg (by omega), cmpI_of_lt (by omega)]; omega
theorem eqB {p q : ByteArray} : (p.toList == q.toList) = decide (p.data.toList = q.data.toList) := by
  rw [ByteArray.toList_eq, ByteArray.toList_eq, Bool.eq_iff_iff]; simp

set_option maxHeartbeats 4000000 in
theorem lawcompare_any (p q r : ByteArray) (w : World) (hp : p.size ≤ maxLen) (hq : q.size ≤ maxLen) (hr : r.size ≤ maxLen) (hm : MaxAt w) :
    Calls Tryd.prog 8 #[.string p, .string q, .string r] w fun e w' => e = .returned (.bool true) ∧ Below w.heap.size w w' := by
  have HM := Lib.hid hm
  clear hm
  by_cases hbig : 300 < p.size ∨ 300 < q.size ∨ 300 < r.size
  · have hb3 : (300 < p.size) ∨ (¬ 300 < p.size ∧ 300 < q.size) ∨ (¬ 300 < p.size ∧ ¬ 300 < q.size ∧ 300 < r.size) := by omega
    clear hbig
    rcases hb3 with h1 | ⟨h1, h2⟩ | ⟨h1, h2, h3⟩
    all_goals
      go_enter Tryd.func8, Tryd.ntmps8
      go_wp2_with fail
      refine (awake_any _ HM.out).mono ?_
      rintro e w1 ⟨rfl, hb1⟩
      go_wp2_with fail
      refine (awake_any _ (HM.out.below hb1)).mono ?_
      rintro e w2 ⟨rfl, hb2⟩
      go_wp2_with fail
      go_ret
      exact ⟨rfl, btwo hb1 hb2⟩
  · have h1 : p.size ≤ 300 := by omega
    have h2 : q.size ≤ 300 := by omega
    have h3 : r.size ≤ 300 := by omega
    clear hbig
    obtain ⟨a, ha⟩ : ∃ a, a = cmpV p.data.toList q.data.toList := ⟨_, rfl⟩
    obtain ⟨b, hb⟩ : ∃ b, b = cmpV q.data.toList r.data.toList := ⟨_, rfl⟩
    obtain ⟨c, hc⟩ : ∃ c, c = cmpV p.data.toList r.data.toList := ⟨_, rfl⟩
    have HA := Lib.hid ha
    have HB := Lib.hid hb
    have HC := Lib.hid hc
    have HN := Lib.hid (show cmpV q.data.toList p.data.toList = -a by rw [cmpV_neg, ← ha])
    have hav : -1 ≤ a ∧ a ≤ 1 := by have := cmpV_val p.data.toList q.data.toList; rw [← ha] at this; omega
    have HZ := Lib.hid (show (a = 0 ↔ p.data.toList = q.data.toList) by rw [ha]; exact cmpV_zero _ _)
    have HT := Lib.hid (show a ≤ 0 → b ≤ 0 → c ≤ 0 by rw [ha, hb, hc]; exact cmpV_trans _ _ _)
    have hwr : IntKind.i64.wrap (-a) = -a := IntWalk.i64_in _ (by omega)
    clear ha hb hc
    have HF := Lib.hid (show (decide (0 < a) || decide (0 < b) || decide (c ≤ 0)) = true by
      have := HT.out
      by_cases x1 : 0 < a
      · simp [x1]
      · by_cases x2 : 0 < b
        · simp [x2]
        · have := this (by omega) (by omega); simp [this])
    have heq : ∃ z : Bool, (p.toList == q.toList) = z ∧ (a == 0) = z := by
      refine ⟨a == 0, ?_, rfl⟩
      rw [eqB, Bool.eq_iff_iff]
      simp [HZ.out]
    obtain ⟨z, hz1, hz2⟩ := heq
    cases z
    all_goals
      go_enter Tryd.func8, Tryd.ntmps8
      go_wp2_with fail
      refine (awake_any _ HM.out).mono ?_
      rintro e w1 ⟨rfl, hb1⟩
      have HB1 := Lib.hid hb1
      clear hb1
      go_wp2_with fail
      refine (pcompare_any p q _ hp hq).mono ?_
      rintro e w2 ⟨rfl, n2, rfl⟩
      rw [← HA.out]
      go_wp2_with fail
      refine (pcompare_any q r _ hq hr).mono ?_
      rintro e w3 ⟨rfl, n3, rfl⟩
      rw [← HB.out]
      go_wp2_with fail
      refine (pcompare_any p r _ hp hr).mono ?_
      rintro e w4 ⟨rfl, n4, rfl⟩
      rw [← HC.out]
      go_wp2_with fail
      refine (rcompare_any p q _ hp hq).mono ?_
      rintro e w5 ⟨rfl, n5, rfl⟩
      rw [← HA.out]
      go_wp2_with fail
      refine (pcompare_any q p _ hq hp).mono ?_
      rintro e w6 ⟨rfl, n6, rfl⟩
      rw [HN.out]
      go_wp2_with fail
      all_goals
        go_ret
        exact ⟨by first | rfl | exact ret_bool HF.out | exact ret_bool (by simpa using HF.out), by first | exact below_drewN HB1.out _ | (simp only [World.drewN_drewN]; exact below_drewN HB1.out _)⟩
end Go.Proofs.YtlkigmlgbnlkaaaDoor
