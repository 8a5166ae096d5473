/- Contracts of the program's isZero, isOne and Valid of fractions. -/
import Derived.Test.YtpinnopdimjfjaaGreatDoorNNum
namespace Go.Proofs.YtpinnopdimjfjaaGreatDoor
open Go.RowKit
set_option linter.unusedVariables false
set_option maxRecDepth 100000

theorem len_zero {x : Int} (h : 0 ≤ x) : (digs x).length = 0 ↔ x = 0 := by
  constructor
  · intro e
    by_cases c : 0 < x
    · rw [digs_pos c] at e; simp at e
    · omega
  · rintro rfl; rw [digs_zero]; rfl
set_option maxHeartbeats 400000 in
theorem isZero_num (n c : Nat) (x : Int) (A : Option Addr) (w : World) (h : NumAt w (.slice A n c) x) :
    Calls Tryz.prog 46 #[.agg #[.slice A n c]] w fun e w' => e = .returned (.bool (decide (x = 0))) ∧ Below w.heap.size w w' := by
  obtain ⟨h0, hn, hi, hc, hm, hl⟩ := h.slice
  have E := Lib.hid (show ((n : Int) == 0) = decide (x = 0) by
    rw [Bool.eq_iff_iff]; simp; rw [hn]; exact len_zero h0)
  clear hn hi h
  go_enter Tryz.func46, Tryz.ntmps46
  go_wp2
  go_ret
  exact ⟨ret_bool E.out.symm, (Below.refl _ _).alloc (Nat.le_refl _) _⟩
theorem rzero_num (n c : Nat) (x : Int) (A : Option Addr) (w : World) (h : NumAt w (.slice A n c) x) :
    Calls Tryz.prog 48 #[.agg #[.slice A n c]] w fun e w' => e = .returned (.bool (decide (x = 0))) ∧ Below w.heap.size w w' := by
  obtain ⟨h0, hn, hi, hc, hm, hl⟩ := h.slice
  have E := Lib.hid (show ((n : Int) == 0) = decide (x = 0) by
    rw [Bool.eq_iff_iff]; simp; rw [hn]; exact len_zero h0)
  clear hn hi h
  go_enter Tryz.func48, Tryz.ntmps48
  go_wp2
  go_ret
  exact ⟨ret_bool E.out.symm, (Below.refl _ _).alloc (Nat.le_refl _) _⟩
theorem one_of {x d : Int} {n : Nat} (h0 : 0 ≤ x) (hn : n = (digs x).length) (hd : d = (digs x).getD 0 0) (h1 : n = 1) : (d == 1) = decide (x = 1) := by
  have h2 := lt_of_len (n := x) (k := 1) (by omega)
  have e : pw 1 = 10000 := by simp [pw]
  rw [e] at h2
  by_cases c : 0 < x
  · rw [digs_pos c] at hd
    simp at hd
    rw [Bool.eq_iff_iff]; simp; omega
  · obtain rfl : x = 0 := by omega
    rw [digs_zero] at hn; simp at hn; omega
theorem not_one {x : Int} {n : Nat} (hn : n = (digs x).length) (h1 : ¬ n = 1) : decide (x = 1) = false := by
  simp; rintro rfl
  rw [digs_one (by omega) (by omega)] at hn
  exact h1 hn
set_option maxHeartbeats 400000 in
theorem isOne_num (n c : Nat) (x : Int) (A : Option Addr) (w : World) (h : NumAt w (.slice A n c) x) :
    Calls Tryz.prog 57 #[.agg #[.slice A n c]] w fun e w' => e = .returned (.bool (decide (x = 1))) ∧ Below w.heap.size w w' := by
  obtain ⟨h0, hn, hi, hc, hm, hl⟩ := h.slice
  by_cases h1 : n = 1
  · obtain ⟨b, off, rfl, hbb, hcc⟩ := hi (by omega)
    have hcell := hcc 0 (by omega)
    obtain ⟨d, hd⟩ : ∃ d, d = (digs x).getD 0 0 := ⟨_, rfl⟩
    rw [← hd, Nat.add_zero] at hcell
    have E := Lib.hid (one_of h0 hn hd h1)
    clear hn hi h hd hcc
    subst h1
    go_enter Tryz.func57, Tryz.ntmps57
    go_wp2
    go_ret
    exact ⟨ret_bool E.out.symm, (Below.refl _ _).alloc (Nat.le_refl _) _⟩
  · have E := Lib.hid (not_one hn h1)
    have h2 : ((n : Int) == 1) = false := by simp; omega
    clear hn hi h h1
    go_enter Tryz.func57, Tryz.ntmps57
    go_wp2
    go_ret
    exact ⟨ret_bool E.out, (Below.refl _ _).alloc (Nat.le_refl _) _⟩
/-- Which fractions are valid. -/
def vldF (s : Bool) (L M : List Int) : Bool := decide ((vldB L = true ∧ vldB M = true) ∧ 0 < val M ∧ gcdI (val L) (val M) = 1 ∧ (s = true → 0 < val L))
abbrev boxF (W : World) (s : Bool) (u v : Value) : World := W.alloc (.cells #[.bool s, u, v] 30)
theorem boxF_new (W : World) (s : Bool) (u v : Value) {w : World} (hb : Below (boxF W s u v).heap.size (boxF W s u v) w) :
    w.cell? ⟨W.heap.size, 0, none⟩ = some (.bool s) ∧ w.cell? ⟨W.heap.size, 1, none⟩ = some u ∧ w.cell? ⟨W.heap.size, 2, none⟩ = some v ∧ W.heap.size < w.heap.size ∧ Below W.heap.size W w := by
  have hblk : w.heap[W.heap.size]? = some (.cells #[.bool s, u, v] 30 (0, 0)) := by
    rw [hb.block _ (by simp)]; exact heap_alloc_new W _
  have hs := hb.size
  simp at hs
  refine ⟨?_, ?_, ?_, by omega, ((Below.refl _ _).alloc (Nat.le_refl _) _).trans (hb.mono (by simp))⟩
  · rw [cell_of_row w _ 0 _ _ _ hblk]; rfl
  · rw [cell_of_row w _ 1 _ _ _ hblk]; rfl
  · rw [cell_of_row w _ 2 _ _ _ hblk]; rfl
/-- What lives on between calls: cells, numbers. -/
def LiveA (W : World) (lc : List (Addr × Value)) (ln : List (Value × Int)) (w : World) : Prop :=
  (∀ a v, (a, v) ∈ lc → w.cell? a = some v ∧ a.block < w.heap.size) ∧ (∀ v x, (v, x) ∈ ln → NumAt w v x) ∧ Below W.heap.size W w
theorem LiveA.go {W w w' : World} {lc : List (Addr × Value)} {ln : List (Value × Int)} (h : LiveA W lc ln w) (hb : Below w.heap.size w w') : LiveA W lc ln w' :=
  ⟨fun a v hm => ⟨(hb.cell (p := a) (h.1 a v hm).2).trans (h.1 a v hm).1, Nat.lt_of_lt_of_le (h.1 a v hm).2 hb.size⟩, fun v x hm => (h.2.1 v x hm).below hb, btwo h.2.2 hb⟩
theorem LiveA.num {W w : World} {lc : List (Addr × Value)} {ln : List (Value × Int)} {v : Value} {x : Int} (h : LiveA W lc ln w) (hi : NumAt w v x) : LiveA W lc ((v, x) :: ln) w :=
  ⟨h.1, fun u y hm => by
    rcases List.mem_cons.1 hm with e | e
    · injection e with e1 e2; subst e1; subst e2; exact hi
    · exact h.2.1 u y e, h.2.2⟩
theorem LiveA.boxed {W w : World} {lc : List (Addr × Value)} {ln : List (Value × Int)} {a : Addr} {v : Value} (h : LiveA W lc ln w) (hc : w.cell? a = some v) (hg : a.block < w.heap.size) : LiveA W ((a, v) :: lc) ln w :=
  ⟨fun b u hm => by
    rcases List.mem_cons.1 hm with e | e
    · injection e with e1 e2; subst e1; subst e2; exact ⟨hc, hg⟩
    · exact h.1 b u e, h.2⟩
theorem LiveA.new {W w : World} {lc : List (Addr × Value)} {ln : List (Value × Int)} (h : LiveA W lc ln w) (v : Value) (T : TypeId) : LiveA W ((⟨w.heap.size, 0, none⟩, v) :: lc) ln (w.alloc (.cells #[v] T)) :=
  (h.go ((Below.refl _ _).alloc (Nat.le_refl _) _)).boxed (row_cell (heap_alloc_new w _)) (by simp)
theorem LiveA.new2 {W w : World} {lc : List (Addr × Value)} {ln : List (Value × Int)} (h : LiveA W lc ln w) (v1 v2 : Value) (T : TypeId) : LiveA W ((⟨w.heap.size + 1, 0, none⟩, v2) :: (⟨w.heap.size, 0, none⟩, v1) :: lc) ln ((w.alloc (.cells #[v1] T)).alloc (.cells #[v2] T)) := by
  have := (h.new v1 T).new v2 T
  simpa using this
theorem LiveA.newF {W w : World} {lc : List (Addr × Value)} {ln : List (Value × Int)} (h : LiveA W lc ln w) (u v x : Value) (T : TypeId) : LiveA W ((⟨w.heap.size, 2, none⟩, x) :: (⟨w.heap.size, 1, none⟩, v) :: (⟨w.heap.size, 0, none⟩, u) :: lc) ln (w.alloc (.cells #[u, v, x] T)) := by
  have hr := heap_alloc_new w (.cells #[u, v, x] T)
  exact (((h.go ((Below.refl _ _).alloc (Nat.le_refl _) _)).boxed (by rw [cell_of_row _ _ 0 _ _ _ hr]; rfl) (by simp)).boxed (by rw [cell_of_row _ _ 1 _ _ _ hr]; rfl) (by simp)).boxed (by rw [cell_of_row _ _ 2 _ _ _ hr]; rfl) (by simp)
theorem LiveA.start (W : World) : LiveA W [] [] W := ⟨fun g v hm => by simp at hm, fun v x hm => by simp at hm, Below.refl _ _⟩
theorem LiveA.box {W w : World} {lc : List (Addr × Value)} {ln : List (Value × Int)} {a : Addr} {v : Value} (h : LiveA W lc ln w) (hm : (a, v) ∈ lc) : w.cell? a = some v ∧ a.block < w.heap.size := h.1 a v hm
theorem LiveA.at {W w : World} {lc : List (Addr × Value)} {ln : List (Value × Int)} {v : Value} {x : Int} (h : LiveA W lc ln w) (hm : (v, x) ∈ ln) : NumAt w v x := h.2.1 v x hm
theorem isZero_t (n c : Nat) (x : Int) (A : Option Addr) (w : World) (h : NumAt w (.slice A n c) x) (hx : x = 0) : Calls Tryz.prog 46 #[.agg #[.slice A n c]] w fun e w' => e = .returned (.bool true) ∧ Below w.heap.size w w' := by
  have := isZero_num n c x A w h
  rwa [decide_eq_true hx] at this
theorem isZero_f (n c : Nat) (x : Int) (A : Option Addr) (w : World) (h : NumAt w (.slice A n c) x) (hx : 0 < x) : Calls Tryz.prog 46 #[.agg #[.slice A n c]] w fun e w' => e = .returned (.bool false) ∧ Below w.heap.size w w' := by
  have := isZero_num n c x A w h
  rwa [decide_eq_false (show ¬ x = 0 by omega)] at this
theorem isOne_t (n c : Nat) (x : Int) (A : Option Addr) (w : World) (h : NumAt w (.slice A n c) x) (hx : x = 1) : Calls Tryz.prog 57 #[.agg #[.slice A n c]] w fun e w' => e = .returned (.bool true) ∧ Below w.heap.size w w' := by
  have := isOne_num n c x A w h
  rwa [decide_eq_true hx] at this
theorem isOne_f (n c : Nat) (x : Int) (A : Option Addr) (w : World) (h : NumAt w (.slice A n c) x) (hx : ¬ x = 1) : Calls Tryz.prog 57 #[.agg #[.slice A n c]] w fun e w' => e = .returned (.bool false) ∧ Below w.heap.size w w' := by
  have := isOne_num n c x A w h
  rwa [decide_eq_false hx] at this
theorem rzero_t (n c : Nat) (x : Int) (A : Option Addr) (w : World) (h : NumAt w (.slice A n c) x) (hx : x = 0) : Calls Tryz.prog 48 #[.agg #[.slice A n c]] w fun e w' => e = .returned (.bool true) ∧ Below w.heap.size w w' := by
  have := rzero_num n c x A w h
  rwa [decide_eq_true hx] at this
theorem rzero_f (n c : Nat) (x : Int) (A : Option Addr) (w : World) (h : NumAt w (.slice A n c) x) (hx : 0 < x) : Calls Tryz.prog 48 #[.agg #[.slice A n c]] w fun e w' => e = .returned (.bool false) ∧ Below w.heap.size w w' := by
  have := rzero_num n c x A w h
  rwa [decide_eq_false (show ¬ x = 0 by omega)] at this
set_option maxHeartbeats 2000000 in
theorem fvalid_bad (s : Bool) (L M : List Int) (n c m d : Nat) (A B : Option Addr) (W : World) (hn : L.length = n) (hm : M.length = m) (hnc : n ≤ c) (hmd : m ≤ d) (hc63 : c ≤ maxLen) (hd63 : d ≤ maxLen) (hA : IntsIn W A L) (hB : IntsIn W B M) (hv : ¬ (vldB L = true ∧ vldB M = true)) :
    Calls Tryz.prog 20 #[.agg #[.bool s, .slice A n c, .slice B m d]] W fun e w' => e = .returned (.bool false) ∧ Below W.heap.size W w' := by
  have V0 := Lib.hid ((LiveA.start W).newF (.bool s) (.slice A n c) (.slice B m d) 30)
  have B0 : Below W.heap.size W (W.alloc (.cells #[.bool s, .slice A n c, .slice B m d] 30)) := (Below.refl _ _).alloc (Nat.le_refl _) _
  have HA := Lib.hid (hA.below B0)
  have HB := Lib.hid (hB.below B0)
  have HN := Lib.hid hn
  have HM := Lib.hid hm
  have hn63 : n ≤ maxLen := Nat.le_trans hnc hc63
  have hm63 : m ≤ maxLen := Nat.le_trans hmd hd63
  have HR := Lib.hid (show two L M (gcdI (val L) (val M), 0) = (0, 1) by unfold two; rw [if_neg hv])
  clear hA hB B0 hn hm hv
  go_enter Tryz.func20, Tryz.ntmps20
  go_wp2_with fail
  refine ((gcd_any L M n c m d A B _ HN.out HM.out hnc hmd hn63 hm63 HA.out HB.out hc63 hd63).mono fun e w' h => err_post h HR.out).mono ?_
  rintro e w1 ⟨Ag, cg, rfl, n1, b1⟩
  have U1 := Lib.hid ((V0.out.go b1).num n1)
  clear n1 b1
  have V1 := Lib.hid (U1.out.new (.slice Ag 0 cg) 24)
  go_wp2_with fail
  go_ret
  exact ⟨rfl, V1.out.2.2⟩
set_option maxHeartbeats 4000000 in
theorem fvalid_num (s : Bool) (n c m d : Nat) (x y : Int) (A B : Option Addr) (W : World) (hx : NumAt W (.slice A n c) x) (hy : NumAt W (.slice B m d) y) :
    Calls Tryz.prog 20 #[.agg #[.bool s, .slice A n c, .slice B m d]] W fun e w' => e = .returned (.bool (decide (0 < y ∧ gcdI x y = 1 ∧ (s = true → 0 < x)))) ∧ Below W.heap.size W w' := by
  have V0 := Lib.hid ((((LiveA.start W).num hy).num hx).newF (.bool s) (.slice A n c) (.slice B m d) 30)
  have PX := hx.1
  have PY := hy.1
  clear hx hy
  by_cases hy0 : y = 0
  · rw [decide_eq_false (show ¬ (0 < y ∧ gcdI x y = 1 ∧ (s = true → 0 < x)) by omega)]
    go_enter Tryz.func20, Tryz.ntmps20
    go_wp2_with fail
    refine (gcd_num n c m d _ _ A B _ (V0.out.at (.head _)) (V0.out.at (.tail _ (.head _)))).mono ?_
    rintro e w1 ⟨Ag, cg, kg, rfl, n1, b1⟩
    have U1 := Lib.hid ((V0.out.go b1).num n1)
    clear n1 b1
    obtain ⟨x1_f2, y1_f2⟩ := U1.out.box (.head _)
    obtain ⟨x1_f1, y1_f1⟩ := U1.out.box (.tail _ (.head _))
    obtain ⟨x1_f0, y1_f0⟩ := U1.out.box (.tail _ (.tail _ (.head _)))
    have V1 := Lib.hid (U1.out.new (.slice Ag kg cg) 24)
    go_wp2_with fail
    refine (isZero_t m d _ B _ (V1.out.at (.tail _ (.tail _ (.head _)))) hy0).mono ?_
    rintro e w2 ⟨rfl, b2⟩
    clear x1_f2 y1_f2 x1_f1 y1_f1 x1_f0 y1_f0
    have V2 := Lib.hid (V1.out.go b2)
    clear b2
    go_wp2_with fail
    go_ret
    exact ⟨rfl, V2.out.2.2⟩
  · have hy1 : 0 < y := by omega
    by_cases hg : gcdI x y = 1
    · cases s with
      | false =>
        rw [decide_eq_true (show 0 < y ∧ gcdI x y = 1 ∧ (false = true → 0 < x) from ⟨hy1, hg, fun h => by cases h⟩)]
        have HG := Lib.hid hg
        clear hg
        go_enter Tryz.func20, Tryz.ntmps20
        go_wp2_with fail
        refine (gcd_num n c m d _ _ A B _ (V0.out.at (.head _)) (V0.out.at (.tail _ (.head _)))).mono ?_
        rintro e w1 ⟨Ag, cg, kg, rfl, n1, b1⟩
        have U1 := Lib.hid ((V0.out.go b1).num n1)
        clear n1 b1
        obtain ⟨x1_f2, y1_f2⟩ := U1.out.box (.head _)
        obtain ⟨x1_f1, y1_f1⟩ := U1.out.box (.tail _ (.head _))
        obtain ⟨x1_f0, y1_f0⟩ := U1.out.box (.tail _ (.tail _ (.head _)))
        have V1 := Lib.hid (U1.out.new (.slice Ag kg cg) 24)
        go_wp2_with fail
        refine (isZero_f m d _ B _ (V1.out.at (.tail _ (.tail _ (.head _)))) hy1).mono ?_
        rintro e w2 ⟨rfl, b2⟩
        clear x1_f2 y1_f2 x1_f1 y1_f1 x1_f0 y1_f0
        have V2 := Lib.hid (V1.out.go b2)
        clear b2
        obtain ⟨x2_f0, y2_f0⟩ := V2.out.box (.tail _ (.tail _ (.tail _ (.head _))))
        obtain ⟨x2_f1, y2_f1⟩ := V2.out.box (.tail _ (.tail _ (.head _)))
        obtain ⟨x2_g, y2_g⟩ := V2.out.box (.head _)
        go_wp2_with fail
        refine (isOne_t kg cg _ Ag _ (V2.out.at (.head _)) HG.out).mono ?_
        rintro e w3 ⟨rfl, b3⟩
        clear x2_f0 y2_f0 x2_f1 y2_f1 x2_g y2_g
        have V3 := Lib.hid (V2.out.go b3)
        clear b3
        obtain ⟨x3_f0, y3_f0⟩ := V3.out.box (.tail _ (.tail _ (.tail _ (.head _))))
        obtain ⟨x3_f1, y3_f1⟩ := V3.out.box (.tail _ (.tail _ (.head _)))
        go_wp2_with fail
        go_ret
        exact ⟨rfl, V3.out.2.2⟩
      | true =>
        by_cases hx0 : x = 0
        · rw [decide_eq_false (show ¬ (0 < y ∧ gcdI x y = 1 ∧ (true = true → 0 < x)) from fun h => by have := h.2.2 rfl; omega)]
          have HG := Lib.hid hg
          clear hg
          go_enter Tryz.func20, Tryz.ntmps20
          go_wp2_with fail
          refine (gcd_num n c m d _ _ A B _ (V0.out.at (.head _)) (V0.out.at (.tail _ (.head _)))).mono ?_
          rintro e w1 ⟨Ag, cg, kg, rfl, n1, b1⟩
          have U1 := Lib.hid ((V0.out.go b1).num n1)
          clear n1 b1
          obtain ⟨x1_f2, y1_f2⟩ := U1.out.box (.head _)
          obtain ⟨x1_f1, y1_f1⟩ := U1.out.box (.tail _ (.head _))
          obtain ⟨x1_f0, y1_f0⟩ := U1.out.box (.tail _ (.tail _ (.head _)))
          have V1 := Lib.hid (U1.out.new (.slice Ag kg cg) 24)
          go_wp2_with fail
          refine (isZero_f m d _ B _ (V1.out.at (.tail _ (.tail _ (.head _)))) hy1).mono ?_
          rintro e w2 ⟨rfl, b2⟩
          clear x1_f2 y1_f2 x1_f1 y1_f1 x1_f0 y1_f0
          have V2 := Lib.hid (V1.out.go b2)
          clear b2
          obtain ⟨x2_f0, y2_f0⟩ := V2.out.box (.tail _ (.tail _ (.tail _ (.head _))))
          obtain ⟨x2_f1, y2_f1⟩ := V2.out.box (.tail _ (.tail _ (.head _)))
          obtain ⟨x2_g, y2_g⟩ := V2.out.box (.head _)
          go_wp2_with fail
          refine (isOne_t kg cg _ Ag _ (V2.out.at (.head _)) HG.out).mono ?_
          rintro e w3 ⟨rfl, b3⟩
          clear x2_f0 y2_f0 x2_f1 y2_f1 x2_g y2_g
          have V3 := Lib.hid (V2.out.go b3)
          clear b3
          obtain ⟨x3_f0, y3_f0⟩ := V3.out.box (.tail _ (.tail _ (.tail _ (.head _))))
          obtain ⟨x3_f1, y3_f1⟩ := V3.out.box (.tail _ (.tail _ (.head _)))
          go_wp2_with fail
          refine (isZero_t n c _ A _ (V3.out.at (.tail _ (.head _))) hx0).mono ?_
          rintro e w4 ⟨rfl, b4⟩
          clear x3_f0 y3_f0 x3_f1 y3_f1
          have V4 := Lib.hid (V3.out.go b4)
          clear b4
          go_wp2_with fail
          go_ret
          exact ⟨rfl, V4.out.2.2⟩
        · have hx1 : 0 < x := by omega
          rw [decide_eq_true (show 0 < y ∧ gcdI x y = 1 ∧ (true = true → 0 < x) from ⟨hy1, hg, fun _ => hx1⟩)]
          have HG := Lib.hid hg
          clear hg
          go_enter Tryz.func20, Tryz.ntmps20
          go_wp2_with fail
          refine (gcd_num n c m d _ _ A B _ (V0.out.at (.head _)) (V0.out.at (.tail _ (.head _)))).mono ?_
          rintro e w1 ⟨Ag, cg, kg, rfl, n1, b1⟩
          have U1 := Lib.hid ((V0.out.go b1).num n1)
          clear n1 b1
          obtain ⟨x1_f2, y1_f2⟩ := U1.out.box (.head _)
          obtain ⟨x1_f1, y1_f1⟩ := U1.out.box (.tail _ (.head _))
          obtain ⟨x1_f0, y1_f0⟩ := U1.out.box (.tail _ (.tail _ (.head _)))
          have V1 := Lib.hid (U1.out.new (.slice Ag kg cg) 24)
          go_wp2_with fail
          refine (isZero_f m d _ B _ (V1.out.at (.tail _ (.tail _ (.head _)))) hy1).mono ?_
          rintro e w2 ⟨rfl, b2⟩
          clear x1_f2 y1_f2 x1_f1 y1_f1 x1_f0 y1_f0
          have V2 := Lib.hid (V1.out.go b2)
          clear b2
          obtain ⟨x2_f0, y2_f0⟩ := V2.out.box (.tail _ (.tail _ (.tail _ (.head _))))
          obtain ⟨x2_f1, y2_f1⟩ := V2.out.box (.tail _ (.tail _ (.head _)))
          obtain ⟨x2_g, y2_g⟩ := V2.out.box (.head _)
          go_wp2_with fail
          refine (isOne_t kg cg _ Ag _ (V2.out.at (.head _)) HG.out).mono ?_
          rintro e w3 ⟨rfl, b3⟩
          clear x2_f0 y2_f0 x2_f1 y2_f1 x2_g y2_g
          have V3 := Lib.hid (V2.out.go b3)
          clear b3
          obtain ⟨x3_f0, y3_f0⟩ := V3.out.box (.tail _ (.tail _ (.tail _ (.head _))))
          obtain ⟨x3_f1, y3_f1⟩ := V3.out.box (.tail _ (.tail _ (.head _)))
          go_wp2_with fail
          refine (isZero_f n c _ A _ (V3.out.at (.tail _ (.head _))) hx1).mono ?_
          rintro e w4 ⟨rfl, b4⟩
          clear x3_f0 y3_f0 x3_f1 y3_f1
          have V4 := Lib.hid (V3.out.go b4)
          clear b4
          go_wp2_with fail
          go_ret
          exact ⟨rfl, V4.out.2.2⟩
    · rw [decide_eq_false (show ¬ (0 < y ∧ gcdI x y = 1 ∧ (s = true → 0 < x)) from fun h => hg h.2.1)]
      go_enter Tryz.func20, Tryz.ntmps20
      go_wp2_with fail
      refine (gcd_num n c m d _ _ A B _ (V0.out.at (.head _)) (V0.out.at (.tail _ (.head _)))).mono ?_
      rintro e w1 ⟨Ag, cg, kg, rfl, n1, b1⟩
      have U1 := Lib.hid ((V0.out.go b1).num n1)
      clear n1 b1
      obtain ⟨x1_f2, y1_f2⟩ := U1.out.box (.head _)
      obtain ⟨x1_f1, y1_f1⟩ := U1.out.box (.tail _ (.head _))
      obtain ⟨x1_f0, y1_f0⟩ := U1.out.box (.tail _ (.tail _ (.head _)))
      have V1 := Lib.hid (U1.out.new (.slice Ag kg cg) 24)
      go_wp2_with fail
      refine (isZero_f m d _ B _ (V1.out.at (.tail _ (.tail _ (.head _)))) hy1).mono ?_
      rintro e w2 ⟨rfl, b2⟩
      clear x1_f2 y1_f2 x1_f1 y1_f1 x1_f0 y1_f0
      have V2 := Lib.hid (V1.out.go b2)
      clear b2
      obtain ⟨x2_g, y2_g⟩ := V2.out.box (.head _)
      go_wp2_with fail
      refine (isOne_f kg cg _ Ag _ (V2.out.at (.head _)) hg).mono ?_
      rintro e w3 ⟨rfl, b3⟩
      clear x2_g y2_g
      have V3 := Lib.hid (V2.out.go b3)
      clear b3
      go_wp2_with fail
      go_ret
      exact ⟨rfl, V3.out.2.2⟩
theorem fvalid_any (s : Bool) (L M : List Int) (n c m d : Nat) (A B : Option Addr) (W : World) (hn : L.length = n) (hm : M.length = m) (hnc : n ≤ c) (hmd : m ≤ d) (hc63 : c ≤ maxLen) (hd63 : d ≤ maxLen) (hA : IntsIn W A L) (hB : IntsIn W B M) :
    Calls Tryz.prog 20 #[.agg #[.bool s, .slice A n c, .slice B m d]] W fun e w' => e = .returned (.bool (vldF s L M)) ∧ Below W.heap.size W w' := by
  by_cases hv : vldB L = true ∧ vldB M = true
  · have := fvalid_num s n c m d (val L) (val M) A B W (num_mk hn hnc hc63 hA hv.1) (num_mk hm hmd hd63 hB hv.2)
    rwa [show decide (0 < val M ∧ gcdI (val L) (val M) = 1 ∧ (s = true → 0 < val L)) = vldF s L M from decide_eq_decide.2 ⟨fun h => ⟨hv, h⟩, fun h => h.2⟩] at this
  · have := fvalid_bad s L M n c m d A B W hn hm hnc hmd hc63 hd63 hA hB hv
    rwa [show false = vldF s L M from (decide_eq_false (fun h => hv h.1)).symm] at this
end Go.Proofs.YtpinnopdimjfjaaGreatDoor
