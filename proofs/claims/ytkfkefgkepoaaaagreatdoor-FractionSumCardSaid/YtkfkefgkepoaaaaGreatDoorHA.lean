/- Contracts of the program's isZero, isOne and Valid of fractions. -/
import Derived.Test.YtkfkefgkepoaaaaGreatDoorNNum
import Derived.Test.YtkfkefgkepoaaaaGreatDoorNReg
import Derived.StillTailTactics
import Derived.Test.YtkfkefgkepoaaaaGreatDoorNRf
import Derived.Test.YtkfkefgkepoaaaaGreatDoorShelf
namespace Go.Proofs.YtkfkefgkepoaaaaGreatDoor
open Go.RowKit
set_option linter.unusedVariables false
set_option maxRecDepth 100000

theorem len_zero {x : Int} (h : 0 ≤ x) : (digs x).length = 0 ↔ x = 0 := by
  constructor
  · intro e
    by_cases c : 0 < x
    · rw [digs_pos c] at e; simp at e
    · omega
  · rintro rfl; rw [digs_zero]; rfl
set_option maxHeartbeats 400000 in
theorem isZero_num (n c : Nat) (x : Int) (A : Option Addr) (w : World) (h : NumAt w (.slice A n c) x) :
    Calls Tryz.prog 31 #[.agg #[.slice A n c]] w fun e w' => e = .returned (.bool (decide (x = 0))) ∧ Below w.heap.size w w' := by
  obtain ⟨h0, hn, hi, hc, hm, hl⟩ := h.slice
  have E := Lib.hid (show ((n : Int) == 0) = decide (x = 0) by
    rw [Bool.eq_iff_iff]; simp; rw [hn]; exact len_zero h0)
  clear hn hi h
  go_enter Tryz.func31, Tryz.ntmps31
  go_wp2
  go_ret
  exact ⟨ret_bool E.out.symm, (Below.refl _ _).alloc (Nat.le_refl _) _⟩
theorem rzero_num (n c : Nat) (x : Int) (A : Option Addr) (w : World) (h : NumAt w (.slice A n c) x) :
    Calls Tryz.prog 41 #[.agg #[.slice A n c]] w fun e w' => e = .returned (.bool (decide (x = 0))) ∧ Below w.heap.size w w' := by
  obtain ⟨h0, hn, hi, hc, hm, hl⟩ := h.slice
  have E := Lib.hid (show ((n : Int) == 0) = decide (x = 0) by
    rw [Bool.eq_iff_iff]; simp; rw [hn]; exact len_zero h0)
  clear hn hi h
  go_enter Tryz.func41, Tryz.ntmps41
  go_wp2
  go_ret
  exact ⟨ret_bool E.out.symm, (Below.refl _ _).alloc (Nat.le_refl _) _⟩
theorem one_of {x d : Int} {n : Nat} (h0 : 0 ≤ x) (hn : n = (digs x).length) (hd : d = (digs x).getD 0 0) (h1 : n = 1) : (d == 1) = decide (x = 1) := by
  have h2 := lt_of_len (n := x) (k := 1) (by omega)
  have e : pw 1 = 10000 := by simp [pw]
  rw [e] at h2
  by_cases c : 0 < x
  · rw [digs_pos c] at hd
    simp at hd
    rw [Bool.eq_iff_iff]; simp; omega
  · obtain rfl : x = 0 := by omega
    rw [digs_zero] at hn; simp at hn; omega
theorem not_one {x : Int} {n : Nat} (hn : n = (digs x).length) (h1 : ¬ n = 1) : decide (x = 1) = false := by
  simp; rintro rfl
  rw [digs_one (by omega) (by omega)] at hn
  exact h1 hn
set_option maxHeartbeats 400000 in
theorem isOne_num (n c : Nat) (x : Int) (A : Option Addr) (w : World) (h : NumAt w (.slice A n c) x) :
    Calls Tryz.prog 28 #[.agg #[.slice A n c]] w fun e w' => e = .returned (.bool (decide (x = 1))) ∧ Below w.heap.size w w' := by
  obtain ⟨h0, hn, hi, hc, hm, hl⟩ := h.slice
  by_cases h1 : n = 1
  · obtain ⟨b, off, rfl, hbb, hcc⟩ := hi (by omega)
    have hcell := hcc 0 (by omega)
    obtain ⟨d, hd⟩ : ∃ d, d = (digs x).getD 0 0 := ⟨_, rfl⟩
    rw [← hd, Nat.add_zero] at hcell
    have E := Lib.hid (one_of h0 hn hd h1)
    clear hn hi h hd hcc
    subst h1
    go_enter Tryz.func28, Tryz.ntmps28
    go_wp2
    go_ret
    exact ⟨ret_bool E.out.symm, (Below.refl _ _).alloc (Nat.le_refl _) _⟩
  · have E := Lib.hid (not_one hn h1)
    have h2 : ((n : Int) == 1) = false := by simp; omega
    clear hn hi h h1
    go_enter Tryz.func28, Tryz.ntmps28
    go_wp2
    go_ret
    exact ⟨ret_bool E.out, (Below.refl _ _).alloc (Nat.le_refl _) _⟩
/-- Which fractions are valid. -/
def vldF (s : Bool) (L M : List Int) : Bool := decide ((vldB L = true ∧ vldB M = true) ∧ 0 < val M ∧ gcdI (val L) (val M) = 1 ∧ (s = true → 0 < val L))
abbrev boxF (W : World) (s : Bool) (u v : Value) : World := W.alloc (.cells #[.bool s, u, v] 32)
theorem boxF_new (W : World) (s : Bool) (u v : Value) {w : World} (hb : Below (boxF W s u v).heap.size (boxF W s u v) w) :
    w.cell? ⟨W.heap.size, 0, none⟩ = some (.bool s) ∧ w.cell? ⟨W.heap.size, 1, none⟩ = some u ∧ w.cell? ⟨W.heap.size, 2, none⟩ = some v ∧ W.heap.size < w.heap.size ∧ Below W.heap.size W w := by
  have hblk : w.heap[W.heap.size]? = some (.cells #[.bool s, u, v] 32 (0, 0)) := by
    rw [hb.block _ (by simp)]; exact heap_alloc_new W _
  have hs := hb.size
  simp at hs
  refine ⟨?_, ?_, ?_, by omega, ((Below.refl _ _).alloc (Nat.le_refl _) _).trans (hb.mono (by simp))⟩
  · rw [cell_of_row w _ 0 _ _ _ hblk]; rfl
  · rw [cell_of_row w _ 1 _ _ _ hblk]; rfl
  · rw [cell_of_row w _ 2 _ _ _ hblk]; rfl
/-- What lives on between calls: cells, numbers. -/
def LiveA (W : World) (lc : List (Addr × Value)) (ln : List (Value × Int)) (w : World) : Prop :=
  (∀ a v, (a, v) ∈ lc → w.cell? a = some v ∧ a.block < w.heap.size) ∧ (∀ v x, (v, x) ∈ ln → NumAt w v x) ∧ Below W.heap.size W w
theorem LiveA.go {W w w' : World} {lc : List (Addr × Value)} {ln : List (Value × Int)} (h : LiveA W lc ln w) (hb : Below w.heap.size w w') : LiveA W lc ln w' :=
  ⟨fun a v hm => ⟨(hb.cell (p := a) (h.1 a v hm).2).trans (h.1 a v hm).1, Nat.lt_of_lt_of_le (h.1 a v hm).2 hb.size⟩, fun v x hm => (h.2.1 v x hm).below hb, btwo h.2.2 hb⟩
theorem LiveA.num {W w : World} {lc : List (Addr × Value)} {ln : List (Value × Int)} {v : Value} {x : Int} (h : LiveA W lc ln w) (hi : NumAt w v x) : LiveA W lc ((v, x) :: ln) w :=
  ⟨h.1, fun u y hm => by
    rcases List.mem_cons.1 hm with e | e
    · injection e with e1 e2; subst e1; subst e2; exact hi
    · exact h.2.1 u y e, h.2.2⟩
theorem LiveA.boxed {W w : World} {lc : List (Addr × Value)} {ln : List (Value × Int)} {a : Addr} {v : Value} (h : LiveA W lc ln w) (hc : w.cell? a = some v) (hg : a.block < w.heap.size) : LiveA W ((a, v) :: lc) ln w :=
  ⟨fun b u hm => by
    rcases List.mem_cons.1 hm with e | e
    · injection e with e1 e2; subst e1; subst e2; exact ⟨hc, hg⟩
    · exact h.1 b u e, h.2⟩
theorem LiveA.new {W w : World} {lc : List (Addr × Value)} {ln : List (Value × Int)} (h : LiveA W lc ln w) (v : Value) (T : TypeId) : LiveA W ((⟨w.heap.size, 0, none⟩, v) :: lc) ln (w.alloc (.cells #[v] T)) :=
  (h.go ((Below.refl _ _).alloc (Nat.le_refl _) _)).boxed (row_cell (heap_alloc_new w _)) (by simp)
theorem LiveA.new2 {W w : World} {lc : List (Addr × Value)} {ln : List (Value × Int)} (h : LiveA W lc ln w) (v1 v2 : Value) (T : TypeId) : LiveA W ((⟨w.heap.size + 1, 0, none⟩, v2) :: (⟨w.heap.size, 0, none⟩, v1) :: lc) ln ((w.alloc (.cells #[v1] T)).alloc (.cells #[v2] T)) := by
  have := (h.new v1 T).new v2 T
  simpa using this
theorem LiveA.newF {W w : World} {lc : List (Addr × Value)} {ln : List (Value × Int)} (h : LiveA W lc ln w) (u v x : Value) (T : TypeId) : LiveA W ((⟨w.heap.size, 2, none⟩, x) :: (⟨w.heap.size, 1, none⟩, v) :: (⟨w.heap.size, 0, none⟩, u) :: lc) ln (w.alloc (.cells #[u, v, x] T)) := by
  have hr := heap_alloc_new w (.cells #[u, v, x] T)
  exact (((h.go ((Below.refl _ _).alloc (Nat.le_refl _) _)).boxed (by rw [cell_of_row _ _ 0 _ _ _ hr]; rfl) (by simp)).boxed (by rw [cell_of_row _ _ 1 _ _ _ hr]; rfl) (by simp)).boxed (by rw [cell_of_row _ _ 2 _ _ _ hr]; rfl) (by simp)
theorem LiveA.start (W : World) : LiveA W [] [] W := ⟨fun g v hm => by simp at hm, fun v x hm => by simp at hm, Below.refl _ _⟩
theorem LiveA.box {W w : World} {lc : List (Addr × Value)} {ln : List (Value × Int)} {a : Addr} {v : Value} (h : LiveA W lc ln w) (hm : (a, v) ∈ lc) : w.cell? a = some v ∧ a.block < w.heap.size := h.1 a v hm
theorem LiveA.at {W w : World} {lc : List (Addr × Value)} {ln : List (Value × Int)} {v : Value} {x : Int} (h : LiveA W lc ln w) (hm : (v, x) ∈ ln) : NumAt w v x := h.2.1 v x hm
theorem isZero_t (n c : Nat) (x : Int) (A : Option Addr) (w : World) (h : NumAt w (.slice A n c) x) (hx : x = 0) : Calls Tryz.prog 31 #[.agg #[.slice A n c]] w fun e w' => e = .returned (.bool true) ∧ Below w.heap.size w w' := by
  have := isZero_num n c x A w h
  rwa [decide_eq_true hx] at this
theorem isZero_f (n c : Nat) (x : Int) (A : Option Addr) (w : World) (h : NumAt w (.slice A n c) x) (hx : 0 < x) : Calls Tryz.prog 31 #[.agg #[.slice A n c]] w fun e w' => e = .returned (.bool false) ∧ Below w.heap.size w w' := by
  have := isZero_num n c x A w h
  rwa [decide_eq_false (show ¬ x = 0 by omega)] at this
theorem isOne_t (n c : Nat) (x : Int) (A : Option Addr) (w : World) (h : NumAt w (.slice A n c) x) (hx : x = 1) : Calls Tryz.prog 28 #[.agg #[.slice A n c]] w fun e w' => e = .returned (.bool true) ∧ Below w.heap.size w w' := by
  have := isOne_num n c x A w h
  rwa [decide_eq_true hx] at this
theorem isOne_f (n c : Nat) (x : Int) (A : Option Addr) (w : World) (h : NumAt w (.slice A n c) x) (hx : ¬ x = 1) : Calls Tryz.prog 28 #[.agg #[.slice A n c]] w fun e w' => e = .returned (.bool false) ∧ Below w.heap.size w w' := by
  have := isOne_num n c x A w h
  rwa [decide_eq_false hx] at this
theorem rzero_t (n c : Nat) (x : Int) (A : Option Addr) (w : World) (h : NumAt w (.slice A n c) x) (hx : x = 0) : Calls Tryz.prog 41 #[.agg #[.slice A n c]] w fun e w' => e = .returned (.bool true) ∧ Below w.heap.size w w' := by
  have := rzero_num n c x A w h
  rwa [decide_eq_true hx] at this
theorem rzero_f (n c : Nat) (x : Int) (A : Option Addr) (w : World) (h : NumAt w (.slice A n c) x) (hx : 0 < x) : Calls Tryz.prog 41 #[.agg #[.slice A n c]] w fun e w' => e = .returned (.bool false) ∧ Below w.heap.size w w' := by
  have := rzero_num n c x A w h
  rwa [decide_eq_false (show ¬ x = 0 by omega)] at this
set_option maxHeartbeats 2000000 in
theorem fvalid_bad (s : Bool) (L M : List Int) (n c m d : Nat) (A B : Option Addr) (W : World) (hn : L.length = n) (hm : M.length = m) (hnc : n ≤ c) (hmd : m ≤ d) (hc63 : c ≤ maxLen) (hd63 : d ≤ maxLen) (hA : IntsIn W A L) (hB : IntsIn W B M) (hv : ¬ (vldB L = true ∧ vldB M = true)) :
    Calls Tryz.prog 16 #[.agg #[.bool s, .slice A n c, .slice B m d]] W fun e w' => e = .returned (.bool false) ∧ Below W.heap.size W w' := by
  have V0 := Lib.hid ((LiveA.start W).newF (.bool s) (.slice A n c) (.slice B m d) 32)
  have B0 : Below W.heap.size W (W.alloc (.cells #[.bool s, .slice A n c, .slice B m d] 32)) := (Below.refl _ _).alloc (Nat.le_refl _) _
  have HA := Lib.hid (hA.below B0)
  have HB := Lib.hid (hB.below B0)
  have HN := Lib.hid hn
  have HM := Lib.hid hm
  have hn63 : n ≤ maxLen := Nat.le_trans hnc hc63
  have hm63 : m ≤ maxLen := Nat.le_trans hmd hd63
  have HR := Lib.hid (show two L M (gcdI (val L) (val M), 0) = (0, 1) by unfold two; rw [if_neg hv])
  clear hA hB B0 hn hm hv
  go_enter Tryz.func16, Tryz.ntmps16
  go_wp2_with fail
  refine ((gcd_any L M n c m d A B _ HN.out HM.out hnc hmd hn63 hm63 HA.out HB.out hc63 hd63).mono fun e w' h => err_post h HR.out).mono ?_
  rintro e w1 ⟨Ag, cg, rfl, n1, b1⟩
  have U1 := Lib.hid ((V0.out.go b1).num n1)
  clear n1 b1
  have V1 := Lib.hid (U1.out.new (.slice Ag 0 cg) 30)
  go_wp2_with fail
  go_ret
  exact ⟨rfl, V1.out.2.2⟩
set_option maxHeartbeats 4000000 in
theorem fvalid_num (s : Bool) (n c m d : Nat) (x y : Int) (A B : Option Addr) (W : World) (hx : NumAt W (.slice A n c) x) (hy : NumAt W (.slice B m d) y) :
    Calls Tryz.prog 16 #[.agg #[.bool s, .slice A n c, .slice B m d]] W fun e w' => e = .returned (.bool (decide (0 < y ∧ gcdI x y = 1 ∧ (s = true → 0 < x)))) ∧ Below W.heap.size W w' := by
  have V0 := Lib.hid ((((LiveA.start W).num hy).num hx).newF (.bool s) (.slice A n c) (.slice B m d) 32)
  have PX := hx.1
  have PY := hy.1
  clear hx hy
  by_cases hy0 : y = 0
  · rw [decide_eq_false (show ¬ (0 < y ∧ gcdI x y = 1 ∧ (s = true → 0 < x)) by omega)]
    go_enter Tryz.func16, Tryz.ntmps16
    go_wp2_with fail
    refine (gcd_num n c m d _ _ A B _ (V0.out.at (.head _)) (V0.out.at (.tail _ (.head _)))).mono ?_
    rintro e w1 ⟨Ag, cg, kg, rfl, n1, b1⟩
    have U1 := Lib.hid ((V0.out.go b1).num n1)
    clear n1 b1
    obtain ⟨x1_f2, y1_f2⟩ := U1.out.box (.head _)
    obtain ⟨x1_f1, y1_f1⟩ := U1.out.box (.tail _ (.head _))
    obtain ⟨x1_f0, y1_f0⟩ := U1.out.box (.tail _ (.tail _ (.head _)))
    have V1 := Lib.hid (U1.out.new (.slice Ag kg cg) 30)
    go_wp2_with fail
    refine (isZero_t m d _ B _ (V1.out.at (.tail _ (.tail _ (.head _)))) hy0).mono ?_
    rintro e w2 ⟨rfl, b2⟩
    clear x1_f2 y1_f2 x1_f1 y1_f1 x1_f0 y1_f0
    have V2 := Lib.hid (V1.out.go b2)
    clear b2
    go_wp2_with fail
    go_ret
    exact ⟨rfl, V2.out.2.2⟩
  · have hy1 : 0 < y := by omega
    by_cases hg : gcdI x y = 1
    · cases s with
      | false =>
        rw [decide_eq_true (show 0 < y ∧ gcdI x y = 1 ∧ (false = true → 0 < x) from ⟨hy1, hg, fun h => by cases h⟩)]
        have HG := Lib.hid hg
        clear hg
        go_enter Tryz.func16, Tryz.ntmps16
        go_wp2_with fail
        refine (gcd_num n c m d _ _ A B _ (V0.out.at (.head _)) (V0.out.at (.tail _ (.head _)))).mono ?_
        rintro e w1 ⟨Ag, cg, kg, rfl, n1, b1⟩
        have U1 := Lib.hid ((V0.out.go b1).num n1)
        clear n1 b1
        obtain ⟨x1_f2, y1_f2⟩ := U1.out.box (.head _)
        obtain ⟨x1_f1, y1_f1⟩ := U1.out.box (.tail _ (.head _))
        obtain ⟨x1_f0, y1_f0⟩ := U1.out.box (.tail _ (.tail _ (.head _)))
        have V1 := Lib.hid (U1.out.new (.slice Ag kg cg) 30)
        go_wp2_with fail
        refine (isZero_f m d _ B _ (V1.out.at (.tail _ (.tail _ (.head _)))) hy1).mono ?_
        rintro e w2 ⟨rfl, b2⟩
        clear x1_f2 y1_f2 x1_f1 y1_f1 x1_f0 y1_f0
        have V2 := Lib.hid (V1.out.go b2)
        clear b2
        obtain ⟨x2_f0, y2_f0⟩ := V2.out.box (.tail _ (.tail _ (.tail _ (.head _))))
        obtain ⟨x2_f1, y2_f1⟩ := V2.out.box (.tail _ (.tail _ (.head _)))
        obtain ⟨x2_g, y2_g⟩ := V2.out.box (.head _)
        go_wp2_with fail
        refine (isOne_t kg cg _ Ag _ (V2.out.at (.head _)) HG.out).mono ?_
        rintro e w3 ⟨rfl, b3⟩
        clear x2_f0 y2_f0 x2_f1 y2_f1 x2_g y2_g
        have V3 := Lib.hid (V2.out.go b3)
        clear b3
        obtain ⟨x3_f0, y3_f0⟩ := V3.out.box (.tail _ (.tail _ (.tail _ (.head _))))
        obtain ⟨x3_f1, y3_f1⟩ := V3.out.box (.tail _ (.tail _ (.head _)))
        go_wp2_with fail
        go_ret
        exact ⟨rfl, V3.out.2.2⟩
      | true =>
        by_cases hx0 : x = 0
        · rw [decide_eq_false (show ¬ (0 < y ∧ gcdI x y = 1 ∧ (true = true → 0 < x)) from fun h => by have := h.2.2 rfl; omega)]
          have HG := Lib.hid hg
          clear hg
          go_enter Tryz.func16, Tryz.ntmps16
          go_wp2_with fail
          refine (gcd_num n c m d _ _ A B _ (V0.out.at (.head _)) (V0.out.at (.tail _ (.head _)))).mono ?_
          rintro e w1 ⟨Ag, cg, kg, rfl, n1, b1⟩
          have U1 := Lib.hid ((V0.out.go b1).num n1)
          clear n1 b1
          obtain ⟨x1_f2, y1_f2⟩ := U1.out.box (.head _)
          obtain ⟨x1_f1, y1_f1⟩ := U1.out.box (.tail _ (.head _))
          obtain ⟨x1_f0, y1_f0⟩ := U1.out.box (.tail _ (.tail _ (.head _)))
          have V1 := Lib.hid (U1.out.new (.slice Ag kg cg) 30)
          go_wp2_with fail
          refine (isZero_f m d _ B _ (V1.out.at (.tail _ (.tail _ (.head _)))) hy1).mono ?_
          rintro e w2 ⟨rfl, b2⟩
          clear x1_f2 y1_f2 x1_f1 y1_f1 x1_f0 y1_f0
          have V2 := Lib.hid (V1.out.go b2)
          clear b2
          obtain ⟨x2_f0, y2_f0⟩ := V2.out.box (.tail _ (.tail _ (.tail _ (.head _))))
          obtain ⟨x2_f1, y2_f1⟩ := V2.out.box (.tail _ (.tail _ (.head _)))
          obtain ⟨x2_g, y2_g⟩ := V2.out.box (.head _)
          go_wp2_with fail
          refine (isOne_t kg cg _ Ag _ (V2.out.at (.head _)) HG.out).mono ?_
          rintro e w3 ⟨rfl, b3⟩
          clear x2_f0 y2_f0 x2_f1 y2_f1 x2_g y2_g
          have V3 := Lib.hid (V2.out.go b3)
          clear b3
          obtain ⟨x3_f0, y3_f0⟩ := V3.out.box (.tail _ (.tail _ (.tail _ (.head _))))
          obtain ⟨x3_f1, y3_f1⟩ := V3.out.box (.tail _ (.tail _ (.head _)))
          go_wp2_with fail
          refine (isZero_t n c _ A _ (V3.out.at (.tail _ (.head _))) hx0).mono ?_
          rintro e w4 ⟨rfl, b4⟩
          clear x3_f0 y3_f0 x3_f1 y3_f1
          have V4 := Lib.hid (V3.out.go b4)
          clear b4
          go_wp2_with fail
          go_ret
          exact ⟨rfl, V4.out.2.2⟩
        · have hx1 : 0 < x := by omega
          rw [decide_eq_true (show 0 < y ∧ gcdI x y = 1 ∧ (true = true → 0 < x) from ⟨hy1, hg, fun _ => hx1⟩)]
          have HG := Lib.hid hg
          clear hg
          go_enter Tryz.func16, Tryz.ntmps16
          go_wp2_with fail
          refine (gcd_num n c m d _ _ A B _ (V0.out.at (.head _)) (V0.out.at (.tail _ (.head _)))).mono ?_
          rintro e w1 ⟨Ag, cg, kg, rfl, n1, b1⟩
          have U1 := Lib.hid ((V0.out.go b1).num n1)
          clear n1 b1
          obtain ⟨x1_f2, y1_f2⟩ := U1.out.box (.head _)
          obtain ⟨x1_f1, y1_f1⟩ := U1.out.box (.tail _ (.head _))
          obtain ⟨x1_f0, y1_f0⟩ := U1.out.box (.tail _ (.tail _ (.head _)))
          have V1 := Lib.hid (U1.out.new (.slice Ag kg cg) 30)
          go_wp2_with fail
          refine (isZero_f m d _ B _ (V1.out.at (.tail _ (.tail _ (.head _)))) hy1).mono ?_
          rintro e w2 ⟨rfl, b2⟩
          clear x1_f2 y1_f2 x1_f1 y1_f1 x1_f0 y1_f0
          have V2 := Lib.hid (V1.out.go b2)
          clear b2
          obtain ⟨x2_f0, y2_f0⟩ := V2.out.box (.tail _ (.tail _ (.tail _ (.head _))))
          obtain ⟨x2_f1, y2_f1⟩ := V2.out.box (.tail _ (.tail _ (.head _)))
          obtain ⟨x2_g, y2_g⟩ := V2.out.box (.head _)
          go_wp2_with fail
          refine (isOne_t kg cg _ Ag _ (V2.out.at (.head _)) HG.out).mono ?_
          rintro e w3 ⟨rfl, b3⟩
          clear x2_f0 y2_f0 x2_f1 y2_f1 x2_g y2_g
          have V3 := Lib.hid (V2.out.go b3)
          clear b3
          obtain ⟨x3_f0, y3_f0⟩ := V3.out.box (.tail _ (.tail _ (.tail _ (.head _))))
          obtain ⟨x3_f1, y3_f1⟩ := V3.out.box (.tail _ (.tail _ (.head _)))
          go_wp2_with fail
          refine (isZero_f n c _ A _ (V3.out.at (.tail _ (.head _))) hx1).mono ?_
          rintro e w4 ⟨rfl, b4⟩
          clear x3_f0 y3_f0 x3_f1 y3_f1
          have V4 := Lib.hid (V3.out.go b4)
          clear b4
          go_wp2_with fail
          go_ret
          exact ⟨rfl, V4.out.2.2⟩
    · rw [decide_eq_false (show ¬ (0 < y ∧ gcdI x y = 1 ∧ (s = true → 0 < x)) from fun h => hg h.2.1)]
      go_enter Tryz.func16, Tryz.ntmps16
      go_wp2_with fail
      refine (gcd_num n c m d _ _ A B _ (V0.out.at (.head _)) (V0.out.at (.tail _ (.head _)))).mono ?_
      rintro e w1 ⟨Ag, cg, kg, rfl, n1, b1⟩
      have U1 := Lib.hid ((V0.out.go b1).num n1)
      clear n1 b1
      obtain ⟨x1_f2, y1_f2⟩ := U1.out.box (.head _)
      obtain ⟨x1_f1, y1_f1⟩ := U1.out.box (.tail _ (.head _))
      obtain ⟨x1_f0, y1_f0⟩ := U1.out.box (.tail _ (.tail _ (.head _)))
      have V1 := Lib.hid (U1.out.new (.slice Ag kg cg) 30)
      go_wp2_with fail
      refine (isZero_f m d _ B _ (V1.out.at (.tail _ (.tail _ (.head _)))) hy1).mono ?_
      rintro e w2 ⟨rfl, b2⟩
      clear x1_f2 y1_f2 x1_f1 y1_f1 x1_f0 y1_f0
      have V2 := Lib.hid (V1.out.go b2)
      clear b2
      obtain ⟨x2_g, y2_g⟩ := V2.out.box (.head _)
      go_wp2_with fail
      refine (isOne_f kg cg _ Ag _ (V2.out.at (.head _)) hg).mono ?_
      rintro e w3 ⟨rfl, b3⟩
      clear x2_g y2_g
      have V3 := Lib.hid (V2.out.go b3)
      clear b3
      go_wp2_with fail
      go_ret
      exact ⟨rfl, V3.out.2.2⟩
theorem fvalid_any (s : Bool) (L M : List Int) (n c m d : Nat) (A B : Option Addr) (W : World) (hn : L.length = n) (hm : M.length = m) (hnc : n ≤ c) (hmd : m ≤ d) (hc63 : c ≤ maxLen) (hd63 : d ≤ maxLen) (hA : IntsIn W A L) (hB : IntsIn W B M) :
    Calls Tryz.prog 16 #[.agg #[.bool s, .slice A n c, .slice B m d]] W fun e w' => e = .returned (.bool (vldF s L M)) ∧ Below W.heap.size W w' := by
  by_cases hv : vldB L = true ∧ vldB M = true
  · have := fvalid_num s n c m d (val L) (val M) A B W (num_mk hn hnc hc63 hA hv.1) (num_mk hm hmd hd63 hB hv.2)
    rwa [show decide (0 < val M ∧ gcdI (val L) (val M) = 1 ∧ (s = true → 0 < val L)) = vldF s L M from decide_eq_decide.2 ⟨fun h => ⟨hv, h⟩, fun h => h.2⟩] at this
  · have := fvalid_bad s L M n c m d A B W hn hm hnc hmd hc63 hd63 hA hB hv
    rwa [show false = vldF s L M from (decide_eq_false (fun h => hv h.1)).symm] at this
end Go.Proofs.YtkfkefgkepoaaaaGreatDoor
/- Contracts of lowest and Of. -/
namespace Go.Proofs.YtkfkefgkepoaaaaGreatDoor
open Go.RowKit
set_option linter.unusedVariables false
set_option maxRecDepth 100000

set_option maxHeartbeats 400000 in
theorem isZero_len (n c : Nat) (A : Option Addr) (w : World) (hn : n ≤ maxLen) :
    Calls Tryz.prog 31 #[.agg #[.slice A n c]] w fun e w' => e = .returned (.bool (decide (n = 0))) ∧ Below w.heap.size w w' := by
  have E := Lib.hid (show ((n : Int) == 0) = decide (n = 0) by rw [Bool.eq_iff_iff]; simp)
  unfold maxLen at hn
  go_enter Tryz.func31, Tryz.ntmps31
  go_wp2
  go_ret
  exact ⟨ret_bool E.out.symm, (Below.refl _ _).alloc (Nat.le_refl _) _⟩
/-- A call that returns a fraction. -/
def FrPost (s : Bool) (p q : Int) (W : World) (e : Ending) (w' : World) : Prop :=
  ∃ A c k B d l, e = .returned (.agg #[.bool s, .slice A k c, .slice B l d]) ∧ NumAt w' (.slice A k c) p ∧ NumAt w' (.slice B l d) q ∧ Below W.heap.size W w'
/-- The block of a fraction that a function returns, as it is at the start. -/
def KeptF (g : Nat) (w : World) : Prop := w.heap[g]? = some (.cells #[.bool false, .slice none 0 0, .slice none 0 0] 32 (0, 0))
theorem KeptF.facts {g : Nat} {w : World} (h : KeptF g w) : w.cell? ⟨g, 0, none⟩ = some (.bool false) ∧ w.cell? ⟨g, 1, none⟩ = some (.slice none 0 0) ∧ w.cell? ⟨g, 2, none⟩ = some (.slice none 0 0) ∧ w.frozen? ⟨g, 0, none⟩ = false ∧ w.frozen? ⟨g, 1, none⟩ = false ∧ w.frozen? ⟨g, 2, none⟩ = false ∧ g < w.heap.size := by
  unfold KeptF at h
  refine ⟨?_, ?_, ?_, by simp [World.frozen?, h], by simp [World.frozen?, h], by simp [World.frozen?, h], (Array.getElem?_eq_some_iff.1 h).1⟩
  · rw [cell_of_row w _ 0 _ _ _ h]; rfl
  · rw [cell_of_row w _ 1 _ _ _ h]; rfl
  · rw [cell_of_row w _ 2 _ _ _ h]; rfl
theorem KeptF.go {g : Nat} {w w' : World} (h : KeptF g w) (hb : Below w.heap.size w w') : KeptF g w' := by
  unfold KeptF at *
  rw [hb.block _ (Array.getElem?_eq_some_iff.1 h).1]; exact h
theorem keptF_new (w : World) : KeptF w.heap.size (w.alloc (.cells #[.bool false, .slice none 0 0, .slice none 0 0] 32)) := heap_alloc_new w _
theorem IntsIn.storeF {w : World} {A : Option Addr} {L : List Int} {g : Nat} {u v x : Value} (h : IntsIn w A L) (hg : KeptF g w) : IntsIn (((w.setCell ⟨g, 0, none⟩ u).setCell ⟨g, 1, none⟩ v).setCell ⟨g, 2, none⟩ x) A L := by
  intro h0
  obtain ⟨b, off, rfl, hlt, hc⟩ := h h0
  have hb : ¬ b = g := by
    rintro rfl
    have h1 := hc 0 h0
    rw [cell_of_row w _ _ _ _ _ hg] at h1
    match off, h1 with
    | 0, h1 => simp at h1
    | 1, h1 => simp at h1
    | 2, h1 => simp at h1
    | k + 3, h1 => simp at h1
  refine ⟨b, off, rfl, by simpa [World.setCell] using hlt, fun j hj => ?_⟩
  have ap : ∀ i : Nat, (⟨b, off + j, none⟩ : Addr) ≠ ⟨g, i, none⟩ := fun i e => by injection e with e1; exact hb e1
  rw [World.cell?_setCell_other _ _ _ _ (by first | exact ap _ | exact (ap _).symm), World.cell?_setCell_other _ _ _ _ (by first | exact ap _ | exact (ap _).symm), World.cell?_setCell_other _ _ _ _ (by first | exact ap _ | exact (ap _).symm)]
  exact hc j hj
theorem NumAt.storeF {w : World} {y : Value} {n : Int} {g : Nat} {u v x : Value} (h : NumAt w y n) (hg : KeptF g w) : NumAt (((w.setCell ⟨g, 0, none⟩ u).setCell ⟨g, 1, none⟩ v).setCell ⟨g, 2, none⟩ x) y n := by
  obtain ⟨h0, A, c, e, hi, h1, h2, h3⟩ := h
  exact ⟨h0, A, c, e, hi.storeF hg, h1, h2, h3⟩
theorem fr_store {W w : World} {g : Nat} {s : Bool} {p q : Int} {A B : Option Addr} {k c l d : Nat} (hg : KeptF g w) (hW : W.heap.size ≤ g) (hp : NumAt w (.slice A k c) p) (hq : NumAt w (.slice B l d) q) (hb : Below W.heap.size W w) (n : Nat) :
    FrPost s p q W (.returned (.agg #[.bool s, .slice A k c, .slice B l d])) ((((w.setCell ⟨g, 0, none⟩ (.bool s)).setCell ⟨g, 1, none⟩ (.slice A k c)).setCell ⟨g, 2, none⟩ (.slice B l d)).drewN n) := by
  refine ⟨A, c, k, B, d, l, rfl, (hp.storeF hg).below (bdr (Below.refl _ _) n), (hq.storeF hg).below (bdr (Below.refl _ _) n), bdr ?_ n⟩
  exact ((hb.setCell (p := ⟨g, 0, none⟩) hW _).setCell (p := ⟨g, 1, none⟩) hW _).setCell (p := ⟨g, 2, none⟩) hW _
theorem fr_store' {W w : World} {g : Nat} {s : Bool} {p q : Int} {A B : Option Addr} {k c l d : Nat} (hg : KeptF g w) (hW : W.heap.size ≤ g) (hp : NumAt w (.slice A k c) p) (hq : NumAt w (.slice B l d) q) (hb : Below W.heap.size W w) :
    FrPost s p q W (.returned (.agg #[.bool s, .slice A k c, .slice B l d])) (((w.setCell ⟨g, 0, none⟩ (.bool s)).setCell ⟨g, 1, none⟩ (.slice A k c)).setCell ⟨g, 2, none⟩ (.slice B l d)) := by
  refine ⟨A, c, k, B, d, l, rfl, hp.storeF hg, hq.storeF hg, ?_⟩
  exact ((hb.setCell (p := ⟨g, 0, none⟩) hW _).setCell (p := ⟨g, 1, none⟩) hW _).setCell (p := ⟨g, 2, none⟩) hW _
theorem drew_eq (w : World) : w.drew = w.drewN 1 := rfl
set_option maxHeartbeats 4000000 in
theorem lowest_num (s : Bool) (n c m d : Nat) (x y : Int) (A B : Option Addr) (W : World) (hx : NumAt W (.slice A n c) x) (hy : NumAt W (.slice B m d) y) (hg : 0 < gcdI x y) :
    Calls Tryz.prog 26 #[.bool s, .agg #[.slice A n c], .agg #[.slice B m d]] W (FrPost (s && !decide (x / gcdI x y = 0)) (x / gcdI x y) (y / gcdI x y) W) := by
  obtain ⟨E, hE⟩ : ∃ E : World, E = ((W.alloc (.cells #[.slice A n c] 30)).alloc (.cells #[.slice B m d] 30)).alloc (.cells #[.bool false, .slice none 0 0, .slice none 0 0] 32) := ⟨_, rfl⟩
  have BE : Below W.heap.size W E := by rw [hE]; exact btwo two_box one_new
  have KE : KeptF (W.heap.size + 1 + 1) E := by
    have := keptF_new ((W.alloc (.cells #[.slice A n c] 30)).alloc (.cells #[.slice B m d] 30))
    rw [← hE] at this
    simpa using this
  have VW := (((LiveA.start W).num hy).num hx).new2 (.slice A n c) (.slice B m d) 30
  have V0 := Lib.hid (show LiveA E [(⟨W.heap.size + 1, 0, none⟩, .slice B m d), (⟨W.heap.size, 0, none⟩, .slice A n c)] [(.slice A n c, x), (.slice B m d, y)] E by
    have h := VW.go (one_new (o := .cells #[.bool false, .slice none 0 0, .slice none 0 0] 32))
    rw [← hE] at h
    exact ⟨h.1, h.2.1, Below.refl _ _⟩)
  have HKE := Lib.hid KE
  have HBE := Lib.hid BE
  clear VW KE BE
  have PX := hx.1
  have PY := hy.1
  clear hx hy
  subst hE
  go_enter Tryz.func26, Tryz.ntmps26
  go_wp2_with fail
  refine (gcd_num n c m d _ _ A B _ (V0.out.at (.head _)) (V0.out.at (.tail _ (.head _)))).mono ?_
  rintro e w1 ⟨Ag, cg, kg, rfl, n1, b1⟩
  have U1 := Lib.hid ((V0.out.go b1).num n1)
  clear n1 b1
  obtain ⟨x1_x, y1_x⟩ := U1.out.box (.tail _ (.head _))
  obtain ⟨x1_y, y1_y⟩ := U1.out.box (.head _)
  have V1 := Lib.hid (U1.out.new (.slice Ag kg cg) 30)
  go_wp2_with fail
  refine (div_num n c kg cg _ _ A Ag _ (V1.out.at (.tail _ (.head _))) (V1.out.at (.head _)) hg).mono ?_
  rintro e w2 ⟨Ap, cp, kp, Au, cu, ku, rfl, n2, m2, b2⟩
  clear x1_x y1_x x1_y y1_y
  have U2 := Lib.hid (((V1.out.go b2).num n2).num m2)
  clear n2 m2 b2
  obtain ⟨x2_x, y2_x⟩ := U2.out.box (.tail _ (.tail _ (.head _)))
  obtain ⟨x2_y, y2_y⟩ := U2.out.box (.tail _ (.head _))
  obtain ⟨x2_g, y2_g⟩ := U2.out.box (.head _)
  have V2 := Lib.hid (U2.out.new2 (.slice Ap kp cp) (.slice Au ku cu) 30)
  go_wp2_with fail
  refine (div_num m d kg cg _ _ B Ag _ (V2.out.at (.tail _ (.tail _ (.tail _ (.tail _ (.head _)))))) (V2.out.at (.tail _ (.tail _ (.head _)))) hg).mono ?_
  rintro e w3 ⟨Aq, cq, kq, Av, cv, kv, rfl, n3, m3, b3⟩
  clear x2_x y2_x x2_y y2_y x2_g y2_g
  have U3 := Lib.hid (((V2.out.go b3).num n3).num m3)
  clear n3 m3 b3
  obtain ⟨x3_p, y3_p⟩ := U3.out.box (.tail _ (.head _))
  obtain ⟨x3_x, y3_x⟩ := U3.out.box (.tail _ (.tail _ (.tail _ (.tail _ (.head _)))))
  have V3 := Lib.hid (U3.out.new2 (.slice Aq kq cq) (.slice Av kv cv) 30)
  obtain ⟨wz, hwz⟩ : ∃ wz : World, wz = (w3.alloc (.cells #[.slice Aq kq cq] 30)).alloc (.cells #[.slice Av kv cv] 30) := ⟨_, rfl⟩
  have VZ := V3.out
  rw [← hwz] at VZ
  have HVZ := Lib.hid VZ
  have HKR := Lib.hid (HKE.out.go VZ.2.2)
  clear x3_p y3_p x3_x y3_x
  go_upto_region 4 with fail
  rw [← hwz]
  clear hwz VZ
  obtain ⟨x3_p, y3_p⟩ := HVZ.out.box (.tail _ (.tail _ (.tail _ (.head _))))
  obtain ⟨x3_q, y3_q⟩ := HVZ.out.box (.tail _ (.head _))
  obtain ⟨k0, k1, k2, k3, k4, k5, k6⟩ := HKR.out.facts
  have NP := Lib.hid (HVZ.out.at (.tail _ (.tail _ (.tail _ (.head _)))))
  have NQ := Lib.hid (HVZ.out.at (.tail _ (.head _)))
  have HBW := Lib.hid (btwo HBE.out HVZ.out.2.2)
  have KP := Lib.hid (show kp ≤ maxLen by have := NP.out.slice; exact Nat.le_trans this.2.2.2.1 this.2.2.2.2.1)
  have XP := Lib.hid (HVZ.out.box (.tail _ (.tail _ (.tail _ (.head _)))))
  have XQ := Lib.hid (HVZ.out.box (.tail _ (.head _)))
  cases s with
  | false =>
    go_still_tail 9, (by kernel_rfl)
    go_wp2_with fail
    exact bodyPost_ret (v := .agg #[.bool false, .slice Ap kp cp, .slice Aq kq cq]) (by simp [results, Tryz.results26, go_sem, k0, k1, k2]) rfl (by rw [drew_eq]; exact fr_store HKR.out (by omega) NP.out NQ.out HBW.out 1)
  | true =>
    have HS := Lib.hid (show (true && !decide (x / gcdI x y = 0)) = !decide (kp = 0) by have := NP.out.slice; rw [Bool.true_and, decide_eq_decide.2 (show x / gcdI x y = 0 ↔ kp = 0 from ⟨fun e => by rw [this.2.1, e, digs_zero]; rfl, fun e => (len_zero this.1).1 (by omega)⟩)])
    go_region_with ((go_at_call 31; (with_reducible refine (isZero_len kp cp Ap _ KP.out).mono ?_); rintro e w5 ⟨rfl, hb5⟩; have D5 : Below wz.heap.size wz w5 := btwo (by first | exact Below.refl _ _ | exact (Below.refl _ _).drew | exact bdr (Below.refl _ _) _ | exact bdr (Below.refl _ _).drew _) hb5; obtain ⟨x5p, y5p⟩ := cell_old XP.out.1 XP.out.2 D5; obtain ⟨x5q, y5q⟩ := cell_old XQ.out.1 XQ.out.2 D5; obtain ⟨k0, k1, k2, k3, k4, k5, k6⟩ := (HKR.out.go D5).facts; have HD5 := Lib.hid D5; clear D5 hb5))
    all_goals (go_wp2_with fail)
    all_goals exact bodyPost_ret (v := .agg #[.bool (!decide (kp = 0)), .slice Ap kp cp, .slice Aq kq cq]) (by simp [results, Tryz.results26, go_sem, k0, k1, k2]) rfl (by rw [HS.out]; exact fr_store' (HKR.out.go HD5.out) (by omega) (NP.out.below HD5.out) (NQ.out.below HD5.out) (btwo HBW.out HD5.out))
end Go.Proofs.YtkfkefgkepoaaaaGreatDoor
/- Contract of Of of fractions, for arguments in range. -/
namespace Go.Proofs.YtkfkefgkepoaaaaGreatDoor
open Go.RowKit
set_option linter.unusedVariables false
set_option maxRecDepth 100000

/-- A call that returns a fraction and no error. -/
def FrOk (s : Bool) (p q : Int) (W : World) (e : Ending) (w' : World) : Prop :=
  ∃ A c k B d l, e = .returned (.tuple #[.agg #[.bool s, .slice A k c, .slice B l d], .int .i64 0]) ∧ NumAt w' (.slice A k c) p ∧ NumAt w' (.slice B l d) q ∧ Below W.heap.size W w'
theorem of_num (N : Int) (W : World) (h0 : 0 ≤ N) (h1 : N ≤ 9223372036854775807) : Calls Tryz.prog 25 #[.int .i64 N] W (ValPost N W) := by
  have hl : (digs N).length ≤ 5 := digs_len_le (n := N) (k := 5) (by rw [pw5]; omega)
  have hv : ofV N = (N, 0) := by unfold ofV; rw [if_neg (by omega)]
  exact (of_any N W h1).mono fun e w' h => val_post h hv h0 (by omega)
theorem fr_ok {W w : World} {g : Nat} {s : Bool} {p q : Int} {A B : Option Addr} {k c l d : Nat} (hg : KeptF g w) (hW : W.heap.size ≤ g) (hp : NumAt w (.slice A k c) p) (hq : NumAt w (.slice B l d) q) (hb : Below W.heap.size W w) :
    FrOk s p q W (.returned (.tuple #[.agg #[.bool s, .slice A k c, .slice B l d], .int .i64 0])) (((w.setCell ⟨g, 0, none⟩ (.bool s)).setCell ⟨g, 1, none⟩ (.slice A k c)).setCell ⟨g, 2, none⟩ (.slice B l d)) := by
  exact ⟨A, c, k, B, d, l, rfl, hp.storeF hg, hq.storeF hg, ((hb.setCell (p := ⟨g, 0, none⟩) hW _).setCell (p := ⟨g, 1, none⟩) hW _).setCell (p := ⟨g, 2, none⟩) hW _⟩
set_option maxHeartbeats 4000000 in
theorem fof_good (a b M N : Int) (W : World) (ha0 : -1000000000000000 ≤ a) (ha1 : a ≤ 1000000000000000) (hb0 : -1000000000000000 ≤ b) (hb1 : b ≤ 1000000000000000) (hb : ¬ b = 0) (hM : M = max a (-a)) (hN : N = max b (-b)) :
    Calls Tryz.prog 12 #[.int .i64 a, .int .i64 b] W (FrOk ((decide (a < 0) != decide (b < 0)) && !decide (M / gcdI M N = 0)) (M / gcdI M N) (N / gcdI M N) W) := by
  have hM0 : 0 ≤ M := by omega
  have hM1 : M ≤ 1000000000000000 := by omega
  have hN0 : 0 < N := by omega
  have hN1 : N ≤ 1000000000000000 := by omega
  have hg : 0 < gcdI M N := by rw [gcdI_comm]; exact gcdI_pos hN0
  have HBE := Lib.hid (show Below W.heap.size W (W.alloc (.cells #[.bool false, .slice none 0 0, .slice none 0 0] 32)) from one_new)
  have HKE := Lib.hid (keptF_new W)
  have V0 := Lib.hid (LiveA.start (W.alloc (.cells #[.bool false, .slice none 0 0, .slice none 0 0] 32)))
  have e1 : IntKind.i64.wrap (-a) = -a := IntWalk.i64_in _ (by omega)
  have e2 : IntKind.i64.wrap (-b) = -b := IntWalk.i64_in _ (by omega)
  have e3 : max a (-a) = M := hM.symm
  have e4 : max b (-b) = N := hN.symm
  have e5 : (b == 0) = false := by simpa using hb
  clear hM hN hb
  by_cases hna : a < 0
  · by_cases hnb : b < 0
    · have da : decide (a < 0) = true := decide_eq_true hna
      have db : decide (b < 0) = true := decide_eq_true hnb
      clear hna hnb
      go_enter Tryz.func12, Tryz.ntmps12
      go_wp2_with fail
      refine (of_num M _ hM0 (by omega)).mono ?_
      rintro e w1 ⟨Am, cm, km, rfl, n1, b1⟩
      have U1 := Lib.hid ((V0.out.go b1).num n1)
      clear n1 b1
      have V1 := Lib.hid (U1.out.new (.slice Am km cm) 30)
      go_wp2_with fail
      refine (of_num N _ (by omega) (by omega)).mono ?_
      rintro e w2 ⟨An, cn, kn, rfl, n2, b2⟩
      have U2 := Lib.hid ((V1.out.go b2).num n2)
      clear n2 b2
      obtain ⟨x2_m, y2_m⟩ := U2.out.box (.head _)
      have V2 := Lib.hid (U2.out.new (.slice An kn cn) 30)
      have HB2 := Lib.hid (btwo HBE.out V2.out.2.2)
      go_wp2_with fail
      refine (lowest_num _ km cm kn cn M N Am An _ (V2.out.at (.tail _ (.head _))) (V2.out.at (.head _)) hg).mono ?_
      rintro e w3 ⟨Ap, cp, kp, Aq, cq, kq, rfl, n3, m3, b3⟩
      have HB3 := Lib.hid (btwo HB2.out b3)
      have N3 := Lib.hid n3
      have M3 := Lib.hid m3
      have K3 := Lib.hid ((HKE.out.go V2.out.2.2).go b3)
      clear n3 m3 b3
      obtain ⟨k0, k1, k2, k3, k4, k5, k6⟩ := K3.out.facts
      go_wp2_with fail
      refine bodyPost_ret (v := .tuple #[.agg #[.bool false, .slice Ap kp cp, .slice Aq kq cq], .int .i64 0]) ?_ rfl ?_
      · simp [results, Tryz.results12, go_sem, k0, k1, k2]
      · have e : (decide (a < 0) != decide (b < 0) && !decide (M / gcdI M N = 0)) = false := by rw [da, db]; rfl
        rw [e]
        have h := fr_ok (s := false) K3.out (Nat.le_refl _) N3.out M3.out HB3.out
        exact h
    · have da : decide (a < 0) = true := decide_eq_true hna
      have db : decide (b < 0) = false := decide_eq_false hnb
      clear hna hnb
      go_enter Tryz.func12, Tryz.ntmps12
      go_wp2_with fail
      refine (of_num M _ hM0 (by omega)).mono ?_
      rintro e w1 ⟨Am, cm, km, rfl, n1, b1⟩
      have U1 := Lib.hid ((V0.out.go b1).num n1)
      clear n1 b1
      have V1 := Lib.hid (U1.out.new (.slice Am km cm) 30)
      go_wp2_with fail
      refine (of_num N _ (by omega) (by omega)).mono ?_
      rintro e w2 ⟨An, cn, kn, rfl, n2, b2⟩
      have U2 := Lib.hid ((V1.out.go b2).num n2)
      clear n2 b2
      obtain ⟨x2_m, y2_m⟩ := U2.out.box (.head _)
      have V2 := Lib.hid (U2.out.new (.slice An kn cn) 30)
      have HB2 := Lib.hid (btwo HBE.out V2.out.2.2)
      go_wp2_with fail
      refine (lowest_num _ km cm kn cn M N Am An _ (V2.out.at (.tail _ (.head _))) (V2.out.at (.head _)) hg).mono ?_
      rintro e w3 ⟨Ap, cp, kp, Aq, cq, kq, rfl, n3, m3, b3⟩
      have HB3 := Lib.hid (btwo HB2.out b3)
      have N3 := Lib.hid n3
      have M3 := Lib.hid m3
      have K3 := Lib.hid ((HKE.out.go V2.out.2.2).go b3)
      clear n3 m3 b3
      obtain ⟨k0, k1, k2, k3, k4, k5, k6⟩ := K3.out.facts
      go_wp2_with fail
      refine bodyPost_ret (v := .tuple #[.agg #[.bool (!decide (M / gcdI M N = 0)), .slice Ap kp cp, .slice Aq kq cq], .int .i64 0]) ?_ rfl ?_
      · simp [results, Tryz.results12, go_sem, k0, k1, k2]
      · have e : (decide (a < 0) != decide (b < 0) && !decide (M / gcdI M N = 0)) = (!decide (M / gcdI M N = 0)) := by rw [da, db]; rfl
        rw [e]
        have h := fr_ok (s := (!decide (M / gcdI M N = 0))) K3.out (Nat.le_refl _) N3.out M3.out HB3.out
        exact h
  · by_cases hnb : b < 0
    · have da : decide (a < 0) = false := decide_eq_false hna
      have db : decide (b < 0) = true := decide_eq_true hnb
      clear hna hnb
      go_enter Tryz.func12, Tryz.ntmps12
      go_wp2_with fail
      refine (of_num M _ hM0 (by omega)).mono ?_
      rintro e w1 ⟨Am, cm, km, rfl, n1, b1⟩
      have U1 := Lib.hid ((V0.out.go b1).num n1)
      clear n1 b1
      have V1 := Lib.hid (U1.out.new (.slice Am km cm) 30)
      go_wp2_with fail
      refine (of_num N _ (by omega) (by omega)).mono ?_
      rintro e w2 ⟨An, cn, kn, rfl, n2, b2⟩
      have U2 := Lib.hid ((V1.out.go b2).num n2)
      clear n2 b2
      obtain ⟨x2_m, y2_m⟩ := U2.out.box (.head _)
      have V2 := Lib.hid (U2.out.new (.slice An kn cn) 30)
      have HB2 := Lib.hid (btwo HBE.out V2.out.2.2)
      go_wp2_with fail
      refine (lowest_num _ km cm kn cn M N Am An _ (V2.out.at (.tail _ (.head _))) (V2.out.at (.head _)) hg).mono ?_
      rintro e w3 ⟨Ap, cp, kp, Aq, cq, kq, rfl, n3, m3, b3⟩
      have HB3 := Lib.hid (btwo HB2.out b3)
      have N3 := Lib.hid n3
      have M3 := Lib.hid m3
      have K3 := Lib.hid ((HKE.out.go V2.out.2.2).go b3)
      clear n3 m3 b3
      obtain ⟨k0, k1, k2, k3, k4, k5, k6⟩ := K3.out.facts
      go_wp2_with fail
      refine bodyPost_ret (v := .tuple #[.agg #[.bool (!decide (M / gcdI M N = 0)), .slice Ap kp cp, .slice Aq kq cq], .int .i64 0]) ?_ rfl ?_
      · simp [results, Tryz.results12, go_sem, k0, k1, k2]
      · have e : (decide (a < 0) != decide (b < 0) && !decide (M / gcdI M N = 0)) = (!decide (M / gcdI M N = 0)) := by rw [da, db]; rfl
        rw [e]
        have h := fr_ok (s := (!decide (M / gcdI M N = 0))) K3.out (Nat.le_refl _) N3.out M3.out HB3.out
        exact h
    · have da : decide (a < 0) = false := decide_eq_false hna
      have db : decide (b < 0) = false := decide_eq_false hnb
      clear hna hnb
      go_enter Tryz.func12, Tryz.ntmps12
      go_wp2_with fail
      refine (of_num M _ hM0 (by omega)).mono ?_
      rintro e w1 ⟨Am, cm, km, rfl, n1, b1⟩
      have U1 := Lib.hid ((V0.out.go b1).num n1)
      clear n1 b1
      have V1 := Lib.hid (U1.out.new (.slice Am km cm) 30)
      go_wp2_with fail
      refine (of_num N _ (by omega) (by omega)).mono ?_
      rintro e w2 ⟨An, cn, kn, rfl, n2, b2⟩
      have U2 := Lib.hid ((V1.out.go b2).num n2)
      clear n2 b2
      obtain ⟨x2_m, y2_m⟩ := U2.out.box (.head _)
      have V2 := Lib.hid (U2.out.new (.slice An kn cn) 30)
      have HB2 := Lib.hid (btwo HBE.out V2.out.2.2)
      go_wp2_with fail
      refine (lowest_num _ km cm kn cn M N Am An _ (V2.out.at (.tail _ (.head _))) (V2.out.at (.head _)) hg).mono ?_
      rintro e w3 ⟨Ap, cp, kp, Aq, cq, kq, rfl, n3, m3, b3⟩
      have HB3 := Lib.hid (btwo HB2.out b3)
      have N3 := Lib.hid n3
      have M3 := Lib.hid m3
      have K3 := Lib.hid ((HKE.out.go V2.out.2.2).go b3)
      clear n3 m3 b3
      obtain ⟨k0, k1, k2, k3, k4, k5, k6⟩ := K3.out.facts
      go_wp2_with fail
      refine bodyPost_ret (v := .tuple #[.agg #[.bool false, .slice Ap kp cp, .slice Aq kq cq], .int .i64 0]) ?_ rfl ?_
      · simp [results, Tryz.results12, go_sem, k0, k1, k2]
      · have e : (decide (a < 0) != decide (b < 0) && !decide (M / gcdI M N = 0)) = false := by rw [da, db]; rfl
        rw [e]
        have h := fr_ok (s := false) K3.out (Nat.le_refl _) N3.out M3.out HB3.out
        exact h
end Go.Proofs.YtkfkefgkepoaaaaGreatDoor
/- Contract of Format of fractions. -/
namespace Go.Proofs.YtkfkefgkepoaaaaGreatDoor
open Go.RowKit
set_option linter.unusedVariables false
set_option maxRecDepth 100000

/-- The text of a fraction. -/
def ftext (s : Bool) (p q : Int) : List UInt8 := (if s = true then [45] else []) ++ (fmt p ++ if q = 1 then [] else 47 :: fmt q)
def ftextV (s : Bool) (L M : List Int) : List UInt8 × Int := if vldF s L M = true then (ftext s (val L) (val M), 0) else ([], 1)
def StrIs (l : List UInt8) (W : World) (e : Ending) (w' : World) : Prop := e = .returned (.tuple #[.string ⟨l.toArray⟩, .int .i64 0]) ∧ Below W.heap.size W w'
/-- A call that returns the text l, of at most so many bytes, and no error. -/
def StrB (l : List UInt8) (k : Nat) (W : World) (e : Ending) (w' : World) : Prop := ∃ b : ByteArray, e = .returned (.tuple #[.string b, .int .i64 0]) ∧ b = ⟨l.toArray⟩ ∧ b.size ≤ k ∧ Below W.heap.size W w'
theorem ba_app (a b : List UInt8) : (⟨a.toArray⟩ : ByteArray) ++ ⟨b.toArray⟩ = ⟨(a ++ b).toArray⟩ := by
  apply ByteArray.ext; simp
theorem format_num (n c : Nat) (x : Int) (A : Option Addr) (w : World) (h : NumAt w (.slice A n c) x) (hT : Tab w) : Calls Tryz.prog 27 #[.agg #[.slice A n c]] w (StrB (fmt x) 800 w) := by
  obtain ⟨a1, a2, a3, a4, a5, a6, a7, a8⟩ := num_in h
  have hl := h.slice.2.2.2.2.2
  refine (format_any (digs x) n c A w a1 a3 a5 hT).mono ?_
  rintro e w' ⟨he, hb⟩
  have e1 : fmtV (digs x) = (fmt x, 0) := by unfold fmtV; rw [if_pos a6, a7]
  rw [e1] at he
  exact ⟨_, he, rfl, by have := fmt_len (n := x) (by omega); simpa [ByteArray.size] using this, hb⟩
theorem fvalid_t (s : Bool) (n c m d : Nat) (x y : Int) (A B : Option Addr) (W : World) (hx : NumAt W (.slice A n c) x) (hy : NumAt W (.slice B m d) y) (hv : 0 < y ∧ gcdI x y = 1 ∧ (s = true → 0 < x)) :
    Calls Tryz.prog 16 #[.agg #[.bool s, .slice A n c, .slice B m d]] W fun e w' => e = .returned (.bool true) ∧ Below W.heap.size W w' := by
  have := fvalid_num s n c m d x y A B W hx hy
  rwa [decide_eq_true hv] at this
set_option maxHeartbeats 4000000 in
theorem fformat_num (s : Bool) (n c m d : Nat) (x y : Int) (A B : Option Addr) (W : World) (hx : NumAt W (.slice A n c) x) (hy : NumAt W (.slice B m d) y) (hv : 0 < y ∧ gcdI x y = 1 ∧ (s = true → 0 < x)) (hT : Tab W) :
    Calls Tryz.prog 13 #[.agg #[.bool s, .slice A n c, .slice B m d]] W (StrIs (ftext s x y) W) := by
  have V0 := Lib.hid ((((LiveA.start W).num hy).num hx).newF (.bool s) (.slice A n c) (.slice B m d) 32)
  have HV := Lib.hid hv
  have HT := Lib.hid hT
  clear hx hy hv hT
  cases s with
  | false =>
    by_cases hy1 : y = 1
    · have HX := Lib.hid (show ftext false x y = fmt x by unfold ftext; rw [if_pos hy1]; simp)
      go_enter Tryz.func13, Tryz.ntmps13
      go_wp2_with fail
      refine (fvalid_t false n c m d _ _ A B _ (V0.out.at (.head _)) (V0.out.at (.tail _ (.head _))) (by simpa using HV.out)).mono ?_
      rintro e w1 ⟨rfl, b1⟩
      have V1 := Lib.hid (V0.out.go b1)
      clear b1
      obtain ⟨x1_f1, y1_f1⟩ := V1.out.box (.tail _ (.head _))
      go_wp2_with fail
      refine (format_num n c x A _ (V1.out.at (.head _)) (HT.out.below V1.out.2.2)).mono ?_
      rintro e w2 ⟨tx, rfl, etx, ltx, b2⟩
      clear x1_f1 y1_f1
      have V2 := Lib.hid (V1.out.go b2)
      clear b2
      obtain ⟨x2_f0, y2_f0⟩ := V2.out.box (.tail _ (.tail _ (.head _)))
      obtain ⟨x2_f2, y2_f2⟩ := V2.out.box (.head _)
      have ETX := Lib.hid etx
      clear etx
      go_wp2_with fail
      refine (isOne_t m d _ B _ (V2.out.at (.tail _ (.head _))) hy1).mono ?_
      rintro e w3 ⟨rfl, b3⟩
      clear x2_f0 y2_f0 x2_f2 y2_f2
      have V3 := Lib.hid (V2.out.go b3)
      clear b3
      go_wp2_with fail
      go_ret2
      exact ⟨by rw [HX.out, ETX.out]; rfl, V3.out.2.2⟩
    · have HX := Lib.hid (show ftext false x y = fmt x ++ 47 :: fmt y by unfold ftext; rw [if_neg hy1]; simp)
      go_enter Tryz.func13, Tryz.ntmps13
      go_wp2_with fail
      refine (fvalid_t false n c m d _ _ A B _ (V0.out.at (.head _)) (V0.out.at (.tail _ (.head _))) (by simpa using HV.out)).mono ?_
      rintro e w1 ⟨rfl, b1⟩
      have V1 := Lib.hid (V0.out.go b1)
      clear b1
      obtain ⟨x1_f1, y1_f1⟩ := V1.out.box (.tail _ (.head _))
      go_wp2_with fail
      refine (format_num n c x A _ (V1.out.at (.head _)) (HT.out.below V1.out.2.2)).mono ?_
      rintro e w2 ⟨tx, rfl, etx, ltx, b2⟩
      clear x1_f1 y1_f1
      have V2 := Lib.hid (V1.out.go b2)
      clear b2
      obtain ⟨x2_f0, y2_f0⟩ := V2.out.box (.tail _ (.tail _ (.head _)))
      obtain ⟨x2_f2, y2_f2⟩ := V2.out.box (.head _)
      have ETX := Lib.hid etx
      clear etx
      go_wp2_with fail
      refine (isOne_f m d _ B _ (V2.out.at (.tail _ (.head _))) hy1).mono ?_
      rintro e w3 ⟨rfl, b3⟩
      clear x2_f0 y2_f0 x2_f2 y2_f2
      have V3 := Lib.hid (V2.out.go b3)
      clear b3
      obtain ⟨x3_f2, y3_f2⟩ := V3.out.box (.head _)
      go_wp2_with fail
      refine (format_num m d y B _ (V3.out.at (.tail _ (.head _))) (HT.out.below V3.out.2.2)).mono ?_
      rintro e w4 ⟨ty, rfl, ety, lty, b4⟩
      clear x3_f2 y3_f2
      have V4 := Lib.hid (V3.out.go b4)
      clear b4
      have ETY := Lib.hid ety
      clear ety
      go_wp2_with fail
      go_ret2
      exact ⟨by rw [HX.out, ETX.out, ETY.out]; rw [show (⟨#[47]⟩ : ByteArray) = ⟨([47] : List UInt8).toArray⟩ from rfl, ba_app, ba_app]; rfl, V4.out.2.2⟩
  | true =>
    by_cases hy1 : y = 1
    · have HX := Lib.hid (show ftext true x y = [45] ++ fmt x by unfold ftext; rw [if_pos hy1]; simp)
      go_enter Tryz.func13, Tryz.ntmps13
      go_wp2_with fail
      refine (fvalid_t true n c m d _ _ A B _ (V0.out.at (.head _)) (V0.out.at (.tail _ (.head _))) (by simpa using HV.out)).mono ?_
      rintro e w1 ⟨rfl, b1⟩
      have V1 := Lib.hid (V0.out.go b1)
      clear b1
      obtain ⟨x1_f1, y1_f1⟩ := V1.out.box (.tail _ (.head _))
      go_wp2_with fail
      refine (format_num n c x A _ (V1.out.at (.head _)) (HT.out.below V1.out.2.2)).mono ?_
      rintro e w2 ⟨tx, rfl, etx, ltx, b2⟩
      clear x1_f1 y1_f1
      have V2 := Lib.hid (V1.out.go b2)
      clear b2
      obtain ⟨x2_f0, y2_f0⟩ := V2.out.box (.tail _ (.tail _ (.head _)))
      obtain ⟨x2_f2, y2_f2⟩ := V2.out.box (.head _)
      have ETX := Lib.hid etx
      clear etx
      go_wp2_with fail
      refine (isOne_t m d _ B _ (V2.out.at (.tail _ (.head _))) hy1).mono ?_
      rintro e w3 ⟨rfl, b3⟩
      clear x2_f0 y2_f0 x2_f2 y2_f2
      have V3 := Lib.hid (V2.out.go b3)
      clear b3
      go_wp2_with fail
      go_ret2
      exact ⟨by show Ending.returned (.tuple #[.string (⟨#[45]⟩ ++ tx), .int .i64 0]) = _; rw [HX.out, ETX.out, show (⟨#[45]⟩ : ByteArray) = ⟨([45] : List UInt8).toArray⟩ from rfl, ba_app], V3.out.2.2⟩
    · have HX := Lib.hid (show ftext true x y = [45] ++ fmt x ++ 47 :: fmt y by unfold ftext; rw [if_neg hy1]; simp)
      go_enter Tryz.func13, Tryz.ntmps13
      go_wp2_with fail
      refine (fvalid_t true n c m d _ _ A B _ (V0.out.at (.head _)) (V0.out.at (.tail _ (.head _))) (by simpa using HV.out)).mono ?_
      rintro e w1 ⟨rfl, b1⟩
      have V1 := Lib.hid (V0.out.go b1)
      clear b1
      obtain ⟨x1_f1, y1_f1⟩ := V1.out.box (.tail _ (.head _))
      go_wp2_with fail
      refine (format_num n c x A _ (V1.out.at (.head _)) (HT.out.below V1.out.2.2)).mono ?_
      rintro e w2 ⟨tx, rfl, etx, ltx, b2⟩
      clear x1_f1 y1_f1
      have V2 := Lib.hid (V1.out.go b2)
      clear b2
      obtain ⟨x2_f0, y2_f0⟩ := V2.out.box (.tail _ (.tail _ (.head _)))
      obtain ⟨x2_f2, y2_f2⟩ := V2.out.box (.head _)
      have ETX := Lib.hid etx
      clear etx
      go_wp2_with fail
      refine (isOne_f m d _ B _ (V2.out.at (.tail _ (.head _))) hy1).mono ?_
      rintro e w3 ⟨rfl, b3⟩
      clear x2_f0 y2_f0 x2_f2 y2_f2
      have V3 := Lib.hid (V2.out.go b3)
      clear b3
      obtain ⟨x3_f2, y3_f2⟩ := V3.out.box (.head _)
      go_wp2_with fail
      refine (format_num m d y B _ (V3.out.at (.tail _ (.head _))) (HT.out.below V3.out.2.2)).mono ?_
      rintro e w4 ⟨ty, rfl, ety, lty, b4⟩
      clear x3_f2 y3_f2
      have V4 := Lib.hid (V3.out.go b4)
      clear b4
      have ETY := Lib.hid ety
      clear ety
      go_wp2_with fail
      go_ret2
      exact ⟨by rw [HX.out, ETX.out, ETY.out]; rw [show (⟨#[45]⟩ : ByteArray) = ⟨([45] : List UInt8).toArray⟩ from rfl, show (⟨#[47]⟩ : ByteArray) = ⟨([47] : List UInt8).toArray⟩ from rfl, ba_app, ba_app, ba_app]; simp, V4.out.2.2⟩
end Go.Proofs.YtkfkefgkepoaaaaGreatDoor
/- Contract of strings.Repeat of a zero. -/
namespace Go.Proofs.YtkfkefgkepoaaaaGreatDoor
open Go.RowKit
set_option linter.unusedVariables false
set_option maxRecDepth 100000

def zeros (k : Nat) : ByteArray := ⟨(List.replicate k 48).toArray⟩
theorem mul_one (k : Nat) (w : World) (hk : k ≤ 40) : Calls Tryz.prog 55 #[.int .u64 1, .int .u64 (k : Int)] w fun e w' => e = .returned (.tuple #[.int .u64 0, .int .u64 (k : Int)]) ∧ w = w' := by
  refine (Tryz.bits_Mul 1 k (by omega) (by omega) w).mono ?_
  rintro e w' ⟨rfl, rfl⟩
  refine ⟨?_, rfl⟩
  rw [show 1 * k / 18446744073709551616 = 0 by omega, show 1 * k % 18446744073709551616 = k by omega]
  rfl
theorem pre_zero (s : ByteArray) (b : Bool) (w : World) (h : Lib.hasPrefix s.data.toList [48] = b) : Calls Tryz.prog 56 #[.string s, .string ⟨#[48]⟩] w fun e w' => e = .returned (.bool b) ∧ w = w' := by
  refine (Tryz.strings_HasPrefix s ⟨#[48]⟩ w).mono ?_
  rintro e w' ⟨rfl, rfl⟩
  exact ⟨by rw [← h], rfl⟩
set_option maxHeartbeats 4000000 in
theorem repeat_two (k : Nat) (W : World) (h2 : 2 ≤ k) (h20 : k ≤ 40) :
    Calls Tryz.prog 30 #[.string ⟨#[48]⟩, .int .i64 (k : Int)] W fun e w' => e = .returned (.string (zeros k)) ∧ W = w' := by
  have d0 : ((k : Int) == 0) = false := by simp; omega
  have d1 : ((k : Int) == 1) = false := by simp; omega
  go_enter Tryz.func30, Tryz.ntmps30
  go_wp2_with fail
  refine (mul_one k _ h20).mono ?_
  rintro e w' ⟨rfl, rfl⟩
  go_wp2_with fail
  refine (pre_zero _ false _ (by decide)).mono ?_
  rintro e w' ⟨rfl, rfl⟩
  go_wp2_with fail
  refine (pre_zero _ false _ (by decide)).mono ?_
  rintro e w' ⟨rfl, rfl⟩
  go_wp2_with fail
  refine (pre_zero _ true _ (by decide)).mono ?_
  rintro e w' ⟨rfl, rfl⟩
  go_wp2_with fail
  go_ret
  refine ⟨congrArg (fun b => Ending.returned (.string b)) ?_, rfl⟩
  refine (fun (h : ∀ j : Fin 41, ByteArray.extract _ 0 j.1 = zeros j.1) => h ⟨k, by omega⟩) ?_
  decide +kernel
theorem repeat_any (k : Nat) (W : World) (h20 : k ≤ 40) :
    Calls Tryz.prog 30 #[.string ⟨#[48]⟩, .int .i64 (k : Int)] W fun e w' => e = .returned (.string (zeros k)) ∧ W = w' := by
  match k, h20 with
  | 0, _ =>
    go_enter Tryz.func30, Tryz.ntmps30
    go_wp2_with fail
    go_ret
    exact ⟨rfl, rfl⟩
  | 1, _ =>
    go_enter Tryz.func30, Tryz.ntmps30
    go_wp2_with fail
    go_ret
    exact ⟨rfl, rfl⟩
  | k + 2, h => exact repeat_two (k + 2) W (by omega) h
end Go.Proofs.YtkfkefgkepoaaaaGreatDoor
