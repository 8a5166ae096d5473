/- The walk of the statement NaturalValid. -/
import Derived.Test.YtiokdfgmamfodaaDoorNWr
import Derived.Deep.RegionHeld3
namespace Go.Proofs.YtiokdfgmamfodaaDoor
open Go.RowKit
set_option linter.unusedVariables false

theorem same_true (L : List Int) (n c m d : Nat) (A B : Option Addr) (w : World) (hn : L.length = n) (hm : L.length = m) (hn63 : n ≤ maxLen) (hm63 : m ≤ maxLen) (hA : IntsIn w A L) (hB : IntsIn w B L) :
    Calls Tryd.prog 20 #[.agg #[.slice A n c], .agg #[.slice B m d]] w fun e w' => e = .returned (.bool true) ∧ Below w.heap.size w w' := by
  refine (same_any L L n c m d A B w hn hm hn63 hm63 hA hB).mono ?_
  rintro e w' ⟨rfl, hb⟩
  exact ⟨by simp, hb⟩
/-- The world in which a function with two boxed arguments begins. -/
abbrev box2 (W : World) (a b : Value) : World := (W.alloc (.cells #[a] 24)).alloc (.cells #[b] 24)
theorem box2_below (W : World) (a b : Value) : Below W.heap.size W (box2 W a b) := two_box
theorem keep2 {W w : World} {a b : Value} (h : Below (box2 W a b).heap.size (box2 W a b) w) : w.cell? ⟨W.heap.size, 0, none⟩ = some a ∧ w.cell? ⟨W.heap.size + 1, 0, none⟩ = some b ∧ W.heap.size + 1 < w.heap.size ∧ Below W.heap.size W w := cell_new2 h
theorem ls_big {n : Nat} (h : n ≤ 17592186044416) : n ≤ maxLen := Nat.le_trans h (by unfold maxLen; decide)
theorem few_no {n m : Nat} (h : ¬ n + m ≤ 420) : decide (([n, m] : List Nat).sum ≤ 420) = false := by
  rw [show ([n, m] : List Nat).sum = n + m by simp]; exact decide_eq_false h
theorem few_yes {n m : Nat} (h : n + m ≤ 420) : decide (([n, m] : List Nat).sum ≤ 420) = true := by
  rw [show ([n, m] : List Nat).sum = n + m by simp]; exact decide_eq_true h
theorem cmpL_bd (L M : List Int) : -1 ≤ cmpL L M ∧ cmpL L M ≤ 1 := by
  have h : ∀ k, -1 ≤ cmpD L M k ∧ cmpD L M k ≤ 1 := by
    intro k
    induction k with
    | zero => simp [cmpD]
    | succ k ih => rw [cmpD_succ]; split <;> (try split) <;> omega
  unfold cmpL
  have := h L.length
  split <;> (try split) <;> omega
/-- What the calls of the last test ask of a world. -/
def VS (W : World) (L0 L1 L3 : List Int) (A0 A1 A3 A4 : Option Addr) (g1 g2 g3 g4 : Nat) (w : World) : Prop :=
  IntsIn w A0 L0 ∧ IntsIn w A1 L1 ∧ IntsIn w A3 L3 ∧ IntsIn w A4 L3 ∧ g1 < w.heap.size ∧ g2 < w.heap.size ∧ g3 < w.heap.size ∧ g4 < w.heap.size ∧ Below W.heap.size W w
theorem VS.drew {W : World} {L0 L1 L3 : List Int} {A0 A1 A3 A4 : Option Addr} {g1 g2 g3 g4 : Nat} {w : World} (h : VS W L0 L1 L3 A0 A1 A3 A4 g1 g2 g3 g4 w) : VS W L0 L1 L3 A0 A1 A3 A4 g1 g2 g3 g4 w.drew :=
  ⟨h.1, h.2.1, h.2.2.1, h.2.2.2.1, h.2.2.2.2.1, h.2.2.2.2.2.1, h.2.2.2.2.2.2.1, h.2.2.2.2.2.2.2.1, h.2.2.2.2.2.2.2.2.drew⟩
theorem keepV {W w w' : World} {L0 L1 L3 : List Int} {A0 A1 A3 A4 : Option Addr} {g1 g2 g3 g4 : Nat} {v1 v2 v3 v4 : Value} (hb : Below w.heap.size w w')
    (h : w.cell? ⟨g1, 0, none⟩ = some v1 ∧ w.cell? ⟨g2, 0, none⟩ = some v2 ∧ w.cell? ⟨g3, 0, none⟩ = some v3 ∧ w.cell? ⟨g4, 0, none⟩ = some v4 ∧ VS W L0 L1 L3 A0 A1 A3 A4 g1 g2 g3 g4 w) :
    w'.cell? ⟨g1, 0, none⟩ = some v1 ∧ w'.cell? ⟨g2, 0, none⟩ = some v2 ∧ w'.cell? ⟨g3, 0, none⟩ = some v3 ∧ w'.cell? ⟨g4, 0, none⟩ = some v4 ∧ VS W L0 L1 L3 A0 A1 A3 A4 g1 g2 g3 g4 w' := by
  obtain ⟨c1, c2, c3, c4, i0, i1, i3, i4, s1, s2, s3, s4, hbel⟩ := h
  have := hb.size
  have hW := hbel.size
  exact ⟨(cell_old c1 s1 hb).1, (cell_old c2 s2 hb).1, (cell_old c3 s3 hb).1, (cell_old c4 s4 hb).1, i0.below hb, i1.below hb, i3.below hb, i4.below hb, by omega, by omega, by omega, by omega, hbel.trans (hb.mono hW)⟩
theorem vib {W w : World} {L0 L1 L3 : List Int} {A0 A1 A3 A4 : Option Addr} {g1 g2 g3 g4 : Nat} {v1 v2 v3 v4 : Value} (h : w.cell? ⟨g1, 0, none⟩ = some v1 ∧ w.cell? ⟨g2, 0, none⟩ = some v2 ∧ w.cell? ⟨g3, 0, none⟩ = some v3 ∧ w.cell? ⟨g4, 0, none⟩ = some v4 ∧ VS W L0 L1 L3 A0 A1 A3 A4 g1 g2 g3 g4 w) : Below W.heap.size W w := h.2.2.2.2.2.2.2.2.2.2.2.2
theorem vi0 {W w : World} {L0 L1 L3 : List Int} {A0 A1 A3 A4 : Option Addr} {g1 g2 g3 g4 : Nat} {v1 v2 v3 v4 : Value} (h : w.cell? ⟨g1, 0, none⟩ = some v1 ∧ w.cell? ⟨g2, 0, none⟩ = some v2 ∧ w.cell? ⟨g3, 0, none⟩ = some v3 ∧ w.cell? ⟨g4, 0, none⟩ = some v4 ∧ VS W L0 L1 L3 A0 A1 A3 A4 g1 g2 g3 g4 w) : IntsIn w A0 L0 := h.2.2.2.2.1
theorem vi1 {W w : World} {L0 L1 L3 : List Int} {A0 A1 A3 A4 : Option Addr} {g1 g2 g3 g4 : Nat} {v1 v2 v3 v4 : Value} (h : w.cell? ⟨g1, 0, none⟩ = some v1 ∧ w.cell? ⟨g2, 0, none⟩ = some v2 ∧ w.cell? ⟨g3, 0, none⟩ = some v3 ∧ w.cell? ⟨g4, 0, none⟩ = some v4 ∧ VS W L0 L1 L3 A0 A1 A3 A4 g1 g2 g3 g4 w) : IntsIn w A1 L1 := h.2.2.2.2.2.1
theorem vi3 {W w : World} {L0 L1 L3 : List Int} {A0 A1 A3 A4 : Option Addr} {g1 g2 g3 g4 : Nat} {v1 v2 v3 v4 : Value} (h : w.cell? ⟨g1, 0, none⟩ = some v1 ∧ w.cell? ⟨g2, 0, none⟩ = some v2 ∧ w.cell? ⟨g3, 0, none⟩ = some v3 ∧ w.cell? ⟨g4, 0, none⟩ = some v4 ∧ VS W L0 L1 L3 A0 A1 A3 A4 g1 g2 g3 g4 w) : IntsIn w A3 L3 := h.2.2.2.2.2.2.1
theorem vi4 {W w : World} {L0 L1 L3 : List Int} {A0 A1 A3 A4 : Option Addr} {g1 g2 g3 g4 : Nat} {v1 v2 v3 v4 : Value} (h : w.cell? ⟨g1, 0, none⟩ = some v1 ∧ w.cell? ⟨g2, 0, none⟩ = some v2 ∧ w.cell? ⟨g3, 0, none⟩ = some v3 ∧ w.cell? ⟨g4, 0, none⟩ = some v4 ∧ VS W L0 L1 L3 A0 A1 A3 A4 g1 g2 g3 g4 w) : IntsIn w A4 L3 := h.2.2.2.2.2.2.2.1
set_option maxHeartbeats 1000000 in
theorem lawvalid_big (L0 : List Int) (n0 c0 : Nat) (A0 : Option Addr) (L1 : List Int) (n1 c1 : Nat) (A1 : Option Addr) (x : Int) (W : World) (hr0 : n0 ≤ 17592186044416) (hr1 : n1 ≤ 17592186044416) (hT : Tab W) (hbig : ¬ n0 + n1 ≤ 420) :
    Calls Tryd.prog 3 #[.agg #[.slice A0 n0 c0], .agg #[.slice A1 n1 c1], .int .i64 x] W fun e w' => e = .returned (.bool true) ∧ Below W.heap.size W w' := by
  have HT := Lib.hid (hT.below (box2_below W (.slice A0 n0 c0) (.slice A1 n1 c1)))
  have HF := Lib.hid (few_no hbig)
  have HS := Lib.hid (small2 hr0 hr1)
  clear hT hbig hr0 hr1
  go_enter Tryd.func3, Tryd.ntmps3
  go_wp2_with fail
  refine (awake_any _ HT.out).mono ?_
  rintro e w1 ⟨rfl, hb1⟩
  obtain ⟨ha1, hb1', hs1, hbw1⟩ := keep2 hb1
  have HB1 := Lib.hid hb1
  clear hb1 hbw1
  go_wp2_with fail
  refine (few_any [n0, n1] _ 2 2 _ rfl (by omega) HS.out (nats2 _ _ _ _ _ _ _ _ _ (by simp))).mono ?_
  rintro e w2 ⟨rfl, rfl⟩
  rw [HF.out]
  go_wp2_with fail
  refine (awake_any _ ((HT.out.below HB1.out).below ((Below.refl _ _).alloc (Nat.le_refl _) _))).mono ?_
  rintro e w3 ⟨rfl, hb3⟩
  have HB3 := Lib.hid (btwo HB1.out (((Below.refl _ _).alloc (Nat.le_refl _) _).trans (hb3.mono (by simp))))
  clear hb3
  go_wp2_with fail
  go_ret
  exact ⟨rfl, (keep2 HB3.out).2.2.2⟩
set_option maxRecDepth 100000 in
set_option maxHeartbeats 2000000 in
theorem lawvalid_small (L0 : List Int) (n0 c0 : Nat) (A0 : Option Addr) (L1 : List Int) (n1 c1 : Nat) (A1 : Option Addr) (x : Int) (W : World) (hl0 : L0.length = n0) (hi0 : IntsIn W A0 L0) (hl1 : L1.length = n1) (hi1 : IntsIn W A1 L1) (hx1 : x ≤ 9223372036854775807) (hT : Tab W) (hsm : n0 + n1 ≤ 420) :
    Calls Tryd.prog 3 #[.agg #[.slice A0 n0 c0], .agg #[.slice A1 n1 c1], .int .i64 x] W fun e w' => e = .returned (.bool true) ∧ Below W.heap.size W w' := by
  have HT := Lib.hid (hT.below (box2_below W (.slice A0 n0 c0) (.slice A1 n1 c1)))
  have HF := Lib.hid (few_yes hsm)
  have HS := Lib.hid (small2 (n := n0) (m := n1) (by omega) (by omega))
  have HI0 := Lib.hid (hi0.below (box2_below W (.slice A0 n0 c0) (.slice A1 n1 c1)))
  have HI1 := Lib.hid (hi1.below (box2_below W (.slice A0 n0 c0) (.slice A1 n1 c1)))
  have HL0 := Lib.hid hl0
  have HL1 := Lib.hid hl1
  have m0 : n0 ≤ maxLen := by unfold maxLen; omega
  have m1 : n1 ≤ maxLen := by unfold maxLen; omega
  clear hT hsm hi0 hi1 hl0 hl1
  go_enter Tryd.func3, Tryd.ntmps3
  go_wp2_with fail
  refine (awake_any _ HT.out).mono ?_
  rintro e w1 ⟨rfl, hb1⟩
  obtain ⟨ha1, hb1', hs1, hbw1⟩ := keep2 hb1
  have HB1 := Lib.hid hb1
  clear hb1 hbw1
  go_wp2_with fail
  refine (few_any [n0, n1] _ 2 2 _ rfl (by omega) HS.out (nats2 _ _ _ _ _ _ _ _ _ (by simp))).mono ?_
  rintro e w2 ⟨rfl, rfl⟩
  rw [HF.out]
  have HB2 := Lib.hid (btwo HB1.out ((Below.refl _ _).alloc (Nat.le_refl _) (.cells #[.slice A0 n0 c0, .slice A1 n1 c1] 24)))
  go_wp2_with fail
  refine (of_any x _ hx1).mono ?_
  rintro e w3 ⟨A3, c3, rfl, hi3, hl3, hm3, hb3⟩
  have HB3 := Lib.hid (btwo HB2.out hb3)
  have HI3 := Lib.hid hi3
  obtain ⟨k, hk⟩ : ∃ k, k = (digs (ofV x).1).length := ⟨_, rfl⟩
  obtain ⟨y, hy⟩ : ∃ y, y = (ofV x).2 := ⟨_, rfl⟩
  rw [← hk] at hl3
  rw [← hk, ← hy]
  have HK := Lib.hid hk
  have HY := Lib.hid hy
  clear hb3 hi3 hk hy ha1 hb1' hs1
  go_wp2_with fail
  refine (rof_any x _ hx1).mono ?_
  rintro e w4 ⟨A4, c4, rfl, hi4, hl4, hm4, hb4⟩
  rw [← HK.out] at hl4
  rw [← HK.out, ← HY.out]
  obtain ⟨hx4, hsx4, hbx4⟩ := cell_new hb4
  have HB4 := Lib.hid (btwo HB3.out hbx4)
  have HI4 := Lib.hid hi4
  have HI34 := Lib.hid (HI3.out.below hbx4)
  clear hb4 hi4 hbx4
  obtain ⟨hcA, hcB, hsB, hBW⟩ := keep2 HB4.out
  have hc3 := (cell_old hx4 hsx4 ((Below.refl w4.heap.size w4).alloc (Nat.le_refl _) (.cells #[.slice A4 k c4] 24)))
  obtain ⟨hc3, hs3⟩ := hc3
  have hwa : Below w4.heap.size w4 (w4.alloc (.cells #[.slice A4 k c4] 24)) := (Below.refl _ _).alloc (Nat.le_refl _) _
  obtain ⟨hcA', hsA'⟩ := cell_old hcA (by omega) hwa
  obtain ⟨hcB', hsB'⟩ := cell_old hcB hsB hwa
  have hcD : (w4.alloc (.cells #[.slice A4 k c4] 24)).cell? ⟨w4.heap.size, 0, none⟩ = some (.slice A4 k c4) := row_cell (heap_alloc_new w4 _)
  obtain ⟨L3, hL3⟩ : ∃ L, L = digs (ofV x).1 := ⟨_, rfl⟩
  have HK3 := Lib.hid (show L3.length = k by rw [hL3]; exact HK.out.symm)
  have mk : k ≤ maxLen := Nat.le_trans hl3 hm3
  have HI3' := HI34.out
  have HI4' := HI4.out
  rw [← hL3] at HI3' HI4'
  have HVS := Lib.hid (show VS W L0 L1 L3 A0 A1 A3 A4 W.heap.size (W.heap.size + 1) w3.heap.size w4.heap.size (w4.alloc (.cells #[.slice A4 k c4] 24)) from
    ⟨(HI0.out.below HB4.out).below hwa, (HI1.out.below HB4.out).below hwa, HI3'.below hwa, HI4'.below hwa, hsA', hsB', hs3, by simp, hBW.trans (hwa.mono (by have := hBW.size; omega))⟩)
  obtain ⟨v, hv⟩ : ∃ v, v = vldB L0 := ⟨_, rfl⟩
  obtain ⟨q, hq⟩ : ∃ q, q = cmpL L0 L1 := ⟨_, rfl⟩
  have hq0 := (cmpL_bd L0 L1).1
  have hq1 := (cmpL_bd L0 L1).2
  rw [← hq] at hq0 hq1
  have HV := Lib.hid hv
  have HQ := Lib.hid hq
  have HNQ := Lib.hid (show cmpL L1 L0 = -q by rw [hq]; exact cmpL_anti L0 L1)
  clear hv hq hL3 HI3' HI4' hx4 hsx4 hcA hcB hsB hBW hs3 hsA' hsB' hwa hl3 hm3 hl4 hm4
  have en : IntKind.i64.wrap (-q) = -q := IntWalk.i64_in _ (by omega)
  go_wp2_with fail
  go_region_held3 (fun w' => w'.cell? ⟨W.heap.size, 0, none⟩ = some (.slice A0 n0 c0) ∧ w'.cell? ⟨W.heap.size + 1, 0, none⟩ = some (.slice A1 n1 c1) ∧ w'.cell? ⟨w3.heap.size, 0, none⟩ = some (.slice A3 k c3) ∧ w'.cell? ⟨w4.heap.size, 0, none⟩ = some (.slice A4 k c4) ∧ VS W L0 L1 L3 A0 A1 A3 A4 W.heap.size (W.heap.size + 1) w3.heap.size w4.heap.size w')
    (first | (exact ⟨hcA', hcB', hc3, hcD, HVS.out.drew⟩) | (exact ⟨hcA', hcB', hc3, hcD, HVS.out⟩) | (exact keepV hb9 (by assumption)))
    (first | (go_at_call 16; (with_reducible refine (valid_any L0 n0 c0 A0 _ HL0.out m0 (vi0 (by assumption))).mono ?_); rintro e w9 ⟨rfl, hb9⟩; rw [← HV.out]) | (go_at_call 17; (with_reducible refine (rvalid_any L0 n0 c0 A0 _ HL0.out m0 (vi0 (by assumption))).mono ?_); rintro e w9 ⟨rfl, hb9⟩; rw [← HV.out]) | (go_at_call 18; (with_reducible refine (cmp_any L0 L1 n0 c0 n1 c1 A0 A1 _ HL0.out HL1.out m0 m1 (vi0 (by assumption)) (vi1 (by assumption))).mono ?_); rintro e w9 ⟨rfl, hb9⟩; rw [← HQ.out]) | (go_at_call 18; (with_reducible refine (cmp_any L1 L0 n1 c1 n0 c0 A1 A0 _ HL1.out HL0.out m1 m0 (vi1 (by assumption)) (vi0 (by assumption))).mono ?_); rintro e w9 ⟨rfl, hb9⟩; rw [HNQ.out]) | (go_at_call 19; (with_reducible refine (rCmp_any L0 L1 n0 c0 n1 c1 A0 A1 _ HL0.out HL1.out m0 m1 (vi0 (by assumption)) (vi1 (by assumption))).mono ?_); rintro e w9 ⟨rfl, hb9⟩; rw [← HQ.out]) | (go_at_call 20; (with_reducible refine (same_true L3 k c3 k c4 A3 A4 _ HK3.out HK3.out mk mk (vi3 (by assumption)) (vi4 (by assumption))).mono ?_); rintro e w9 ⟨rfl, hb9⟩))
  go_wp2
  go_ret
  exact ⟨rfl, vib (L0 := L0) (L1 := L1) (L3 := L3) (A0 := A0) (A1 := A1) (A3 := A3) (A4 := A4) (by assumption)⟩
theorem lawvalid_any (L0 : List Int) (n0 c0 : Nat) (A0 : Option Addr) (L1 : List Int) (n1 c1 : Nat) (A1 : Option Addr) (x : Int) (W : World) (hl0 : L0.length = n0) (hc0 : n0 ≤ c0) (hr0 : c0 ≤ 17592186044416) (hi0 : IntsIn W A0 L0) (hl1 : L1.length = n1) (hc1 : n1 ≤ c1) (hr1 : c1 ≤ 17592186044416) (hi1 : IntsIn W A1 L1) (hx0 : -9223372036854775808 ≤ x) (hx1 : x ≤ 9223372036854775807) (hT : Tab W) :
    Calls Tryd.prog 3 #[.agg #[.slice A0 n0 c0], .agg #[.slice A1 n1 c1], .int .i64 x] W fun e w' => e = .returned (.bool true) ∧ Below W.heap.size W w' := by
  by_cases h : n0 + n1 ≤ 420
  · exact lawvalid_small L0 n0 c0 A0 L1 n1 c1 A1 x W hl0 hi0 hl1 hi1 hx1 hT h
  · exact lawvalid_big L0 n0 c0 A0 L1 n1 c1 A1 x W (Nat.le_trans hc0 hr0) (Nat.le_trans hc1 hr1) hT h
end Go.Proofs.YtiokdfgmamfodaaDoor
