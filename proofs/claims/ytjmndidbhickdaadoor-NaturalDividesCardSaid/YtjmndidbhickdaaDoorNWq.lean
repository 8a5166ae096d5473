/- Contract of the statements' own check of the chapter's example: it answers true. -/
import Derived.Test.YtjmndidbhickdaaDoorNCell
namespace Go.Proofs.YtjmndidbhickdaaDoor
open Go.RowKit
set_option linter.unusedVariables false
set_option maxRecDepth 100000

def ExNat (l : List Int) (n : Nat) (x : Int) (W : World) (e : Ending) (w' : World) : Prop :=
  ∃ A c, e = .returned (.tuple #[.agg #[.slice A n c], .int .i64 x]) ∧ IntsIn w' A l ∧ n ≤ c ∧ c ≤ maxLen ∧ Below W.heap.size W w'
theorem ex_of {r : Int × Int} {l : List Int} {n : Nat} {x : Int} {W w' : World} {e : Ending} (h : NatPost r W e w') (h1 : digs r.1 = l) (h2 : l.length = n) (h3 : r.2 = x) : ExNat l n x W e w' := by
  obtain ⟨A, c, he, hi, hc, hm, hb⟩ := h
  rw [h1] at he hi hc
  rw [h3, h2] at he
  rw [h2] at hc
  exact ⟨A, c, he, hi, hc, hm, hb⟩
theorem digs_lit {l : List Int} {n : Int} (h : vldB l = true) (hv : val l = n) : digs n = l := by
  have := vldB_true h
  rw [← hv]; exact this.2.2.1.symm
theorem d1 : digs 12345678 = [5678, 1234] := digs_lit (by decide) (by decide)
theorem d2 : digs 152415765279684 = [9684, 6527, 4157, 152] := digs_lit (by decide) (by decide)
theorem d3 : digs 10001 = [1, 1] := digs_lit (by decide) (by decide)
theorem d4 : digs 1234 = [1234] := digs_lit (by decide) (by decide)
theorem d5 : digs 4444 = [4444] := digs_lit (by decide) (by decide)
theorem d6 : digs 15 = [15] := digs_lit (by decide) (by decide)
theorem ex1 (W : World) : Calls Tryd.prog 34 #[.int .i64 12345678] W (ExNat [5678, 1234] 2 0 W) :=
  (of_any 12345678 W (by omega)).mono fun e w' h => ex_of h d1 rfl rfl
theorem ex4 (W : World) : Calls Tryd.prog 34 #[.int .i64 10001] W (ExNat [1, 1] 2 0 W) :=
  (of_any 10001 W (by omega)).mono fun e w' h => ex_of h d3 rfl rfl
theorem v1 : val [5678, 1234] = 12345678 := by decide
theorem v3 : val [1, 1] = 10001 := by decide
theorem ex2 (A B : Option Addr) (c d : Nat) (W : World) (hc : 2 ≤ c) (hd : 2 ≤ d) (hA : IntsIn W A [5678, 1234]) (hB : IntsIn W B [5678, 1234]) :
    Calls Tryd.prog 15 #[.agg #[.slice A 2 c], .agg #[.slice B 2 d]] W (ExNat [9684, 6527, 4157, 152] 4 0 W) := by
  refine (mul_any [5678, 1234] [5678, 1234] 2 c 2 d A B W rfl rfl hc hd (by decide) (by decide) hA hB).mono fun e w' h => ?_
  have e1 : two [5678, 1234] [5678, 1234] (lim (val [5678, 1234] * val [5678, 1234])) = (152415765279684, 0) := by
    rw [two_ok _ (by decide) (by decide), v1, show (12345678 : Int) * 12345678 = 152415765279684 by decide]
    unfold lim
    rw [d2]; rfl
  exact ex_of h (by rw [e1]; exact d2) rfl (by rw [e1])
def exT : List UInt8 := [49, 53, 50, 52, 49, 53, 55, 54, 53, 50, 55, 57, 54, 56, 52]
def ExStr (W : World) (e : Ending) (w' : World) : Prop := e = .returned (.tuple #[.string ⟨#[49, 53, 50, 52, 49, 53, 55, 54, 53, 50, 55, 57, 54, 56, 52]⟩, .int .i64 0]) ∧ Below W.heap.size W w'
theorem ex3 (A : Option Addr) (c : Nat) (W : World) (hT : Tab W) (hA : IntsIn W A [9684, 6527, 4157, 152]) :
    Calls Tryd.prog 35 #[.agg #[.slice A 4 c]] W (ExStr W) := by
  refine (format_any [9684, 6527, 4157, 152] 4 c A W rfl (by decide) hA hT).mono fun e w' h => ?_
  have e1 : fmtV [9684, 6527, 4157, 152] = (exT, 0) := by
    unfold fmtV
    rw [if_pos (by decide), show val [9684, 6527, 4157, 152] = 152415765279684 by decide]
    rw [← fmt_of (l := exT) (n := 152415765279684) ((isTB_iff _).1 (by decide)) (by decide)]
  obtain ⟨he, hb⟩ := h
  rw [e1] at he
  exact ⟨he, hb⟩
def ExDiv (W : World) (e : Ending) (w' : World) : Prop :=
  ∃ A c B d, e = .returned (.tuple #[.agg #[.slice A 1 c], .agg #[.slice B 1 d], .int .i64 0]) ∧ IntsIn w' A [1234] ∧ IntsIn w' B [4444] ∧ Below W.heap.size W w'
theorem ex5 (A B : Option Addr) (c d : Nat) (W : World) (hc : 2 ≤ c) (hd : 2 ≤ d) (hA : IntsIn W A [5678, 1234]) (hB : IntsIn W B [1, 1]) :
    Calls Tryd.prog 11 #[.agg #[.slice A 2 c], .agg #[.slice B 2 d]] W (ExDiv W) := by
  refine (div_any [5678, 1234] [1, 1] 2 c 2 d A B W rfl rfl hc hd (by decide) (by decide) hA hB).mono fun e w' h => ?_
  have e1 : two2 [5678, 1234] [1, 1] (divR (val [5678, 1234]) (val [1, 1])) = (1234, 4444, 0) := by
    rw [two2_ok _ (by decide) (by decide), v1, v3]
    decide
  obtain ⟨A', c', B', d', he, h1, h2, h3, h4, h5, h6, hb⟩ := h
  rw [e1] at he h1 h4
  simp only [d4, d5] at he h1 h4
  exact ⟨A', c', B', d', he, h1, h4, hb⟩
theorem ex6 (W : World) : Calls Tryd.prog 23 #[.int .i64 6, .int .i64 2] W (ExNat [15] 1 0 W) :=
  (binomial_any 6 2 W (by omega) (by omega) (by omega) (by omega)).mono fun e w' h => ex_of h (by rw [show (binV 6 2).1 = 15 by decide]; exact d6) rfl (by decide)
theorem ex7 (W : World) : Calls Tryd.prog 36 #[.string ⟨#[48, 48, 55]⟩] W (ExNat [] 0 2 W) :=
  (parse_any ⟨#[48, 48, 55]⟩ W (by decide)).mono fun e w' h => ex_of h (by rw [show parseV (⟨#[48, 48, 55]⟩ : ByteArray).data.toList = (0, 2) by decide]; exact digs_zero) rfl (by rw [show parseV (⟨#[48, 48, 55]⟩ : ByteArray).data.toList = (0, 2) by decide])
set_option maxRecDepth 100000 in
set_option maxHeartbeats 2000000 in
theorem awake_any (W : World) (hT : Tab W) : Calls Tryd.prog 9 #[] W fun e w' => e = .returned (.bool true) ∧ Below W.heap.size W w' := by
  have HT := Lib.hid hT
  clear hT
  go_enter Tryd.func9, Tryd.ntmps9
  go_wp2_with fail
  refine (ex1 _).mono ?_
  rintro e w1 ⟨A1, c1, rfl, hi1, hl1, hm1, hb1⟩
  have HI1 := Lib.hid hi1
  have HB1 := Lib.hid hb1
  clear hi1 hb1
  go_wp2_with fail
  refine (ex2 A1 A1 c1 c1 _ hl1 hl1 (HI1.out.below ((Below.refl _ _).alloc (Nat.le_refl _) _)) (HI1.out.below ((Below.refl _ _).alloc (Nat.le_refl _) _))).mono ?_
  rintro e w2 ⟨A2, c2, rfl, hi2, hl2, hm2, hb2⟩
  obtain ⟨ha2, hg2, hbb2⟩ := cell_new hb2
  have HI2 := Lib.hid hi2
  have HB2 := Lib.hid hbb2
  clear hi2 hb2 hbb2
  go_wp2_with fail
  refine (ex3 A2 c2 _ ((HT.out.below (btwo HB1.out HB2.out)).below ((Below.refl _ _).alloc (Nat.le_refl _) _)) (HI2.out.below ((Below.refl _ _).alloc (Nat.le_refl _) _))).mono ?_
  rintro e w3 ⟨rfl, hb3⟩
  obtain ⟨_, _, hbb3⟩ := cell_new hb3
  obtain ⟨ha3, hg3⟩ := cell_old ha2 hg2 hbb3
  have HB3 := Lib.hid (btwo HB2.out hbb3)
  clear ha2 hg2 hb3 hbb3
  go_wp2_with fail
  refine (ex4 _).mono ?_
  rintro e w4 ⟨A4, c4, rfl, hi4, hl4, hm4, hb4⟩
  obtain ⟨ha4, hg4⟩ := cell_old ha3 hg3 hb4
  have HI4 := Lib.hid hi4
  have HB4 := Lib.hid (btwo HB3.out hb4)
  clear ha3 hg3 hb4 hi4
  go_wp2_with fail
  refine (ex5 A1 A4 c1 c4 _ hl1 hl4 ((HI1.out.below HB4.out).below ((Below.refl _ _).alloc (Nat.le_refl _) _)) (HI4.out.below ((Below.refl _ _).alloc (Nat.le_refl _) _))).mono ?_
  rintro e w5 ⟨A5, c5, D5, d5, rfl, hi5, hj5, hb5⟩
  obtain ⟨_, _, hbb5⟩ := cell_new hb5
  obtain ⟨ha5, hg5⟩ := cell_old ha4 hg4 hbb5
  have HI5 := Lib.hid hi5
  have HJ5 := Lib.hid hj5
  have HB5 := Lib.hid (btwo HB4.out hbb5)
  clear ha4 hg4 hb5 hbb5 hi5 hj5
  go_wp2_with fail
  refine (ex6 _).mono ?_
  rintro e w6 ⟨A6, c6, rfl, hi6, hl6, hm6, hb6⟩
  obtain ⟨hq6, hr6, hgr6, hbb6⟩ := cell_new2 hb6
  obtain ⟨ha6, hg6⟩ := cell_old ha5 hg5 hbb6
  have HI6 := Lib.hid hi6
  have HB6 := Lib.hid (btwo HB5.out hbb6)
  have HB56 := Lib.hid hbb6
  have hgq6 : w5.heap.size < w6.heap.size := by omega
  clear ha5 hg5 hb6 hi6 hbb6
  go_wp2_with fail
  refine (ex7 _).mono ?_
  rintro e w7 ⟨A7, c7, rfl, hi7, hl7, hm7, hb7⟩
  obtain ⟨hn7, hgn7, hbb7⟩ := cell_new hb7
  obtain ⟨ha7, hg7⟩ := cell_old ha6 hg6 hbb7
  obtain ⟨hq7, hgq7⟩ := cell_old hq6 hgq6 hbb7
  obtain ⟨hr7, hgr7⟩ := cell_old hr6 hgr6 hbb7
  have HB7 := Lib.hid (btwo HB6.out hbb7)
  have J1 := Lib.hid (HI1.out.below HB7.out)
  have J5 := Lib.hid ((HI5.out.below HB56.out).below hbb7)
  have K5 := Lib.hid ((HJ5.out.below HB56.out).below hbb7)
  have J6 := Lib.hid (HI6.out.below hbb7)
  clear ha6 hg6 hq6 hr6 hgq6 hgr6 hb7 hi7 hbb7
  go_wp2_with fail
  refine (eq_true [5678, 1234] 2 c1 2 A1 _ _ rfl (by omega) (by omega) ((J1.out.below ((Below.refl _ _).alloc (Nat.le_refl _) _)).below ((Below.refl _ _).alloc (Nat.le_refl _) _)) (ints_new' _ _ [5678, 1234] _ (by simp))).mono ?_
  rintro e w8 ⟨rfl, hb8⟩
  have hbb8 : Below w7.heap.size w7 w8 := (((Below.refl _ _).alloc (Nat.le_refl _) _).alloc (by simp) _).trans (hb8.mono (by simp; omega))
  obtain ⟨hq8, hgq8⟩ := cell_old hq7 hgq7 hbb8
  obtain ⟨hr8, hgr8⟩ := cell_old hr7 hgr7 hbb8
  obtain ⟨hn8, hgn8⟩ := cell_old hn7 hgn7 hbb8
  have HB8 := Lib.hid (btwo HB7.out hbb8)
  have J5' := Lib.hid (J5.out.below hbb8)
  have K5' := Lib.hid (K5.out.below hbb8)
  have J6' := Lib.hid (J6.out.below hbb8)
  clear ha7 hg7 hq7 hr7 hn7 hgq7 hgr7 hgn7 hb8 hbb8
  go_wp2_with fail
  refine (eq_true [1234] 1 c5 1 A5 _ _ rfl (by omega) (by omega) (J5'.out.below ((Below.refl _ _).alloc (Nat.le_refl _) _)) (ints_new' _ _ [1234] _ (by simp))).mono ?_
  rintro e w9 ⟨rfl, hb9⟩
  have hbb9 : Below w8.heap.size w8 w9 := ((Below.refl _ _).alloc (Nat.le_refl _) _).trans (hb9.mono (by simp))
  obtain ⟨hr9, hgr9⟩ := cell_old hr8 hgr8 hbb9
  obtain ⟨hn9, hgn9⟩ := cell_old hn8 hgn8 hbb9
  have HB9 := Lib.hid (btwo HB8.out hbb9)
  have K5'' := Lib.hid (K5'.out.below hbb9)
  have J6'' := Lib.hid (J6'.out.below hbb9)
  clear hq8 hr8 hn8 hgq8 hgr8 hgn8 hb9 hbb9
  go_wp2_with fail
  refine (eq_true [4444] 1 d5 1 D5 _ _ rfl (by omega) (by omega) (K5''.out.below ((Below.refl _ _).alloc (Nat.le_refl _) _)) (ints_new' _ _ [4444] _ (by simp))).mono ?_
  rintro e w10 ⟨rfl, hb10⟩
  have hbb10 : Below w9.heap.size w9 w10 := ((Below.refl _ _).alloc (Nat.le_refl _) _).trans (hb10.mono (by simp))
  obtain ⟨hn10, hgn10⟩ := cell_old hn9 hgn9 hbb10
  have HB10 := Lib.hid (btwo HB9.out hbb10)
  have J6q := Lib.hid (J6''.out.below hbb10)
  clear hr9 hn9 hgr9 hgn9 hb10 hbb10
  go_wp2_with fail
  refine (eq_true [15] 1 c6 1 A6 _ _ rfl (by omega) (by omega) (J6q.out.below ((Below.refl _ _).alloc (Nat.le_refl _) _)) (ints_new' _ _ [15] _ (by simp))).mono ?_
  rintro e w11 ⟨rfl, hb11⟩
  have HB11 := Lib.hid (btwo HB10.out (((Below.refl _ _).alloc (Nat.le_refl _) _).trans (hb11.mono (by simp))))
  clear hn10 hgn10 hb11
  go_wp2_with fail
  go_ret
  exact ⟨rfl, btwo HB1.out HB11.out⟩
end Go.Proofs.YtjmndidbhickdaaDoor
