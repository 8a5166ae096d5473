/- Contracts of Add, Sub and Mul of the program. -/
import Derived.Test.YtkfkefgkepoaaaaGreatDoorNWi
namespace Go.Proofs.YtkfkefgkepoaaaaGreatDoor
open Go.RowKit
set_option linter.unusedVariables false
set_option maxRecDepth 100000

/-- The world in which a function with two boxed arguments and a result cell begins. -/
abbrev box3 (W : World) (a b : Value) : World := ((W.alloc (.cells #[a] 30)).alloc (.cells #[b] 30)).alloc (.cells #[.slice none 0 0] 30)
theorem box3_size (W : World) (a b : Value) : (box3 W a b).heap.size = W.heap.size + 3 := by simp [box3]
theorem box3_below (W : World) (a b : Value) : Below W.heap.size W (box3 W a b) := (((Below.refl _ _).alloc (Nat.le_refl _) _).alloc (by simp) _).alloc (by simp; omega) _
theorem three {W w : World} {a b : Value} (hb : Below (box3 W a b).heap.size (box3 W a b) w) :
    w.cell? ⟨W.heap.size, 0, none⟩ = some a ∧ w.cell? ⟨W.heap.size + 1, 0, none⟩ = some b ∧ w.cell? ⟨W.heap.size + 1 + 1, 0, none⟩ = some (.slice none 0 0) ∧ w.frozen? ⟨W.heap.size + 1 + 1, 0, none⟩ = false ∧ W.heap.size + 1 + 1 < w.heap.size ∧
      Below W.heap.size W w ∧ w.heap[W.heap.size + 1 + 1]? = some (.cells #[.slice none 0 0] 30 (0, 0)) := by
  have hs := box3_size W a b
  rw [hs] at hb
  have hz := hb.size
  rw [hs] at hz
  have s1 : (W.alloc (.cells #[a] 30)).heap.size = W.heap.size + 1 := by simp
  have s2 : ((W.alloc (.cells #[a] 30)).alloc (.cells #[b] 30)).heap.size = W.heap.size + 1 + 1 := by simp
  have b0 : w.heap[W.heap.size]? = some (.cells #[a] 30 (0, 0)) := by
    rw [hb.block _ (by omega)]; unfold box3
    rw [Below.heap_alloc _ _ _ (by rw [s2]; omega), Below.heap_alloc _ _ _ (by rw [s1]; omega)]
    exact heap_alloc_new W _
  have b1 : w.heap[W.heap.size + 1]? = some (.cells #[b] 30 (0, 0)) := by
    rw [hb.block _ (by omega)]; unfold box3
    rw [Below.heap_alloc _ _ _ (by rw [s2]; omega)]
    have := heap_alloc_new (W.alloc (.cells #[a] 30)) (.cells #[b] 30)
    rwa [s1] at this
  have b2 : w.heap[W.heap.size + 1 + 1]? = some (.cells #[.slice none 0 0] 30 (0, 0)) := by
    rw [hb.block _ (by omega)]; unfold box3
    have := heap_alloc_new ((W.alloc (.cells #[a] 30)).alloc (.cells #[b] 30)) (.cells #[.slice none 0 0] 30)
    rwa [s2] at this
  refine ⟨?_, ?_, ?_, ?_, by omega, (box3_below W a b).trans (hb.mono (by omega)), b2⟩
  · rw [cell_of_row w _ 0 _ _ _ b0]; rfl
  · rw [cell_of_row w _ 0 _ _ _ b1]; rfl
  · rw [cell_of_row w _ 0 _ _ _ b2]; rfl
  · simp [World.frozen?, b2]
/-- A store into a cell that holds a slice turns no list of integers. -/
theorem IntsIn.store {w : World} {A : Option Addr} {L : List Int} {g : Nat} {T : TypeId} {x v : Value} {a : Option Addr} {n c : Nat} (h : IntsIn w A L) (hg : w.heap[g]? = some (.cells #[.slice a n c] T (0, 0))) : IntsIn (w.setCell ⟨g, 0, none⟩ v) A L := by
  intro h0
  obtain ⟨b, off, e, hlt, hc⟩ := h h0
  have hne : b ≠ g := by
    intro e2
    subst e2
    have h1 := hc 0 h0
    rw [cell_of_row w b _ _ _ _ hg] at h1
    by_cases c0 : off = 0
    · subst c0; simp at h1
    · rw [Array.getElem?_eq_none (by simp; omega)] at h1; cases h1
  refine ⟨b, off, e, by simpa [World.setCell] using hlt, fun j hj => ?_⟩
  rw [World.cell?_setCell_other _ _ _ _ (by intro e3; injection e3 with e4; exact hne e4.symm)]
  exact hc j hj
theorem nat_store {r : Int × Int} {k : Nat} {A : Option Addr} {c g : Nat} {W w : World} {T : TypeId} (hk : k = (digs r.1).length) (hi : IntsIn w A (digs r.1)) (hc : (digs r.1).length ≤ c) (hm : c ≤ maxLen) (hb : Below W.heap.size W w) (hg : w.heap[g]? = some (.cells #[.slice none 0 0] T (0, 0))) (hgW : W.heap.size ≤ g) :
    NatPost r W (.returned (.tuple #[.agg #[.slice A k c], .int .i64 r.2])) (w.setCell ⟨g, 0, none⟩ (.slice A k c)) := by
  subst hk
  exact ⟨A, c, rfl, hi.store (x := .slice none 0 0) hg, hc, hm, hb.setCell (p := ⟨g, 0, none⟩) hgW _⟩
def subR (x y : Int) : Int × Int := if x < y then (0, 6) else (x - y, 0)
def two (L M : List Int) (r : Int × Int) : Int × Int := if vldB L = true ∧ vldB M = true then r else (0, 1)
theorem two_no1 {L M : List Int} (r : Int × Int) (h : vldB L = false) : two L M r = (0, 1) := by unfold two; rw [if_neg (by simp [h])]
theorem two_no2 {L M : List Int} (r : Int × Int) (h : vldB M = false) : two L M r = (0, 1) := by unfold two; rw [if_neg (by simp [h])]
theorem two_ok {L M : List Int} (r : Int × Int) (h : vldB L = true) (h2 : vldB M = true) : two L M r = r := by unfold two; rw [if_pos ⟨h, h2⟩]
theorem box_go {W w w' : World} {a b : Value} (h : Below (box3 W a b).heap.size (box3 W a b) w) (h2 : Below w.heap.size w w') : Below (box3 W a b).heap.size (box3 W a b) w' := btwo h h2
theorem nat_bad {r : Int × Int} {x : Int} {W w : World} {a b : Value} (h : r = (0, x)) (hb : Below (box3 W a b).heap.size (box3 W a b) w) : NatPost r W (.returned (.tuple #[.agg #[.slice none 0 0], .int .i64 x])) (w.setCell ⟨W.heap.size + 1 + 1, 0, none⟩ (.slice none 0 0)) := by
  obtain ⟨_, _, _, _, _, h6, _⟩ := three hb
  exact nat_err h (h6.setCell (p := ⟨W.heap.size + 1 + 1, 0, none⟩) (by simp; omega) _)
set_option maxHeartbeats 1000000 in
theorem add_bad1 (L M : List Int) (n c m d : Nat) (A B : Option Addr) (W : World) (hn : L.length = n) (hm : M.length = m) (hnc : n ≤ c) (hmd : m ≤ d) (hn63 : n ≤ maxLen) (hm63 : m ≤ maxLen) (hA : IntsIn W A L) (hB : IntsIn W B M) (h1 : vldB L = false) :
    Calls Tryz.prog 39 #[.agg #[.slice A n c], .agg #[.slice B m d]] W (NatPost (two L M (lim (val L + val M))) W) := by
  have HA := Lib.hid (hA.below (box3_below W (.slice A n c) (.slice B m d)))
  have HB := Lib.hid (hB.below (box3_below W (.slice A n c) (.slice B m d)))
  have HN := Lib.hid hn
  have HM := Lib.hid hm
  have H1 := Lib.hid h1
  clear hA hB hn hm h1
  go_enter Tryz.func39, Tryz.ntmps39
  go_wp2_with fail
  refine (valid_any L n c A _ HN.out hn63 HA.out).mono ?_
  rintro e w1 ⟨rfl, hb1⟩
  rw [H1.out]
  have HB1 := Lib.hid hb1
  obtain ⟨hc0, hc1, hc2, hf2, hs2, _, _⟩ := three hb1
  clear hb1
  go_wp2
  exact bodyPost_ret (v := .tuple #[.agg #[.slice none 0 0], .int .i64 1]) (by simp [results, Tryz.results39, go_sem, hc2]) rfl (nat_bad (two_no1 _ H1.out) HB1.out)
set_option maxHeartbeats 1000000 in
theorem add_bad2 (L M : List Int) (n c m d : Nat) (A B : Option Addr) (W : World) (hn : L.length = n) (hm : M.length = m) (hnc : n ≤ c) (hmd : m ≤ d) (hn63 : n ≤ maxLen) (hm63 : m ≤ maxLen) (hA : IntsIn W A L) (hB : IntsIn W B M) (h1 : vldB L = true) (h2 : vldB M = false) :
    Calls Tryz.prog 39 #[.agg #[.slice A n c], .agg #[.slice B m d]] W (NatPost (two L M (lim (val L + val M))) W) := by
  have HA := Lib.hid (hA.below (box3_below W (.slice A n c) (.slice B m d)))
  have HB := Lib.hid (hB.below (box3_below W (.slice A n c) (.slice B m d)))
  have HN := Lib.hid hn
  have HM := Lib.hid hm
  have H1 := Lib.hid h1
  have H2 := Lib.hid h2
  clear hA hB hn hm h1 h2
  go_enter Tryz.func39, Tryz.ntmps39
  go_wp2_with fail
  refine (valid_any L n c A _ HN.out hn63 HA.out).mono ?_
  rintro e w1 ⟨rfl, hb1⟩
  rw [H1.out]
  have HB1 := Lib.hid hb1
  obtain ⟨hc0, hc1, hc2, hf2, hs2, _, _⟩ := three hb1
  clear hb1
  go_wp2_with fail
  refine (valid_any M m d B _ HM.out hm63 (HB.out.below HB1.out)).mono ?_
  rintro e w2 ⟨rfl, hb2⟩
  rw [H2.out]
  have HB2 := Lib.hid (box_go HB1.out hb2)
  clear hc0 hc1 hc2 hf2 hs2 hb2
  obtain ⟨hc0, hc1, hc2, hf2, hs2, _, _⟩ := three HB2.out
  go_wp2
  exact bodyPost_ret (v := .tuple #[.agg #[.slice none 0 0], .int .i64 1]) (by simp [results, Tryz.results39, go_sem, hc2]) rfl (nat_bad (two_no2 _ H2.out) HB2.out)
set_option maxHeartbeats 2000000 in
theorem add_good (L M : List Int) (n c m d : Nat) (A B : Option Addr) (W : World) (hn : L.length = n) (hm : M.length = m) (hnc : n ≤ c) (hmd : m ≤ d) (hn63 : n ≤ maxLen) (hm63 : m ≤ maxLen) (hA : IntsIn W A L) (hB : IntsIn W B M) (h1 : vldB L = true) (h2 : vldB M = true) :
    Calls Tryz.prog 39 #[.agg #[.slice A n c], .agg #[.slice B m d]] W (NatPost (two L M (lim (val L + val M))) W) := by
  rw [two_ok _ h1 h2]
  obtain ⟨l1, d1, e1, p1, q1⟩ := vldB_true h1
  obtain ⟨l2, d2, e2, p2, q2⟩ := vldB_true h2
  have hn2 : n ≤ 200 := by omega
  have hm2 : m ≤ 200 := by omega
  have HA := Lib.hid (hA.below (box3_below W (.slice A n c) (.slice B m d)))
  have HB := Lib.hid (hB.below (box3_below W (.slice A n c) (.slice B m d)))
  have HN := Lib.hid hn
  have HM := Lib.hid hm
  have H1 := Lib.hid h1
  have H2 := Lib.hid h2
  have D1 := Lib.hid d1
  have D2 := Lib.hid d2
  have E1 := Lib.hid e1
  have E2 := Lib.hid e2
  clear hA hB hn hm h1 h2 d1 d2 e1 e2 q1 q2 l1 l2
  go_enter Tryz.func39, Tryz.ntmps39
  go_wp2_with fail
  refine (valid_any L n c A _ HN.out hn63 HA.out).mono ?_
  rintro e w1 ⟨rfl, hb1⟩
  rw [H1.out]
  have HB1 := Lib.hid hb1
  obtain ⟨hc0, hc1, hc2, hf2, hs2, _, _⟩ := three hb1
  clear hb1
  go_wp2_with fail
  refine (valid_any M m d B _ HM.out hm63 (HB.out.below HB1.out)).mono ?_
  rintro e w2 ⟨rfl, hb2⟩
  rw [H2.out]
  have HB2 := Lib.hid (box_go HB1.out hb2)
  clear hc0 hc1 hc2 hf2 hs2 hb2
  obtain ⟨hc0, hc1, hc2, hf2, hs2, _, _⟩ := three HB2.out
  go_wp2_with fail
  refine (sum_any n c m d L M A B _ HN.out HM.out (by omega) (by omega) D1.out D2.out (HA.out.below HB2.out) (HB.out.below HB2.out)).mono ?_
  rintro e w3 ⟨A3, c3, rfl, hi3, hl3, hm3, hb3⟩
  obtain ⟨k, hk⟩ : ∃ k, k = (digs (val L + val M)).length := ⟨_, rfl⟩
  rw [← hk] at hl3 ⊢
  have HI3 := Lib.hid hi3
  have HK := Lib.hid hk
  have HB3 := Lib.hid (box_go HB2.out hb3)
  clear hc0 hc1 hc2 hf2 hs2 hb3 hi3 hk
  obtain ⟨hc0, hc1, hc2, hf2, hs2, _, _⟩ := three HB3.out
  go_wp2_with fail
  refine (limited_any (val L + val M) k c3 A3 _ HK.out.symm hl3 hm3 HI3.out).mono ?_
  rintro e w4 ⟨A4, c4, rfl, hi4, hl4, hm4, hb4⟩
  have HB4 := Lib.hid (box_go HB3.out hb4)
  obtain ⟨k4, hk4⟩ : ∃ k, k = (digs (lim (val L + val M)).1).length := ⟨_, rfl⟩
  obtain ⟨x4, hx4⟩ : ∃ x, x = (lim (val L + val M)).2 := ⟨_, rfl⟩
  obtain ⟨_, _, _, _, _, h6, h7⟩ := three HB4.out
  have R := Lib.hid (nat_store (W := W) hk4 hi4 hl4 hm4 h6 h7 (by omega))
  rw [← hx4] at R
  rw [← hk4, ← hx4]
  clear hc0 hc1 hc2 hf2 hs2 hb4 hi4 hk4 hx4 hl4 h6 h7
  obtain ⟨hc0, hc1, hc2, hf2, hs2, _, _⟩ := three HB4.out
  go_wp2_with fail
  exact bodyPost_ret (v := .tuple #[.agg #[.slice A4 k4 c4], .int .i64 x4]) (by simp [results, Tryz.results39, go_sem, hc2]) rfl R.out
theorem add_any (L M : List Int) (n c m d : Nat) (A B : Option Addr) (W : World) (hn : L.length = n) (hm : M.length = m) (hnc : n ≤ c) (hmd : m ≤ d) (hn63 : n ≤ maxLen) (hm63 : m ≤ maxLen) (hA : IntsIn W A L) (hB : IntsIn W B M) :
    Calls Tryz.prog 39 #[.agg #[.slice A n c], .agg #[.slice B m d]] W (NatPost (two L M (lim (val L + val M))) W) := by
  cases h1 : vldB L with
  | false => exact add_bad1 L M n c m d A B W hn hm hnc hmd hn63 hm63 hA hB h1
  | true =>
    cases h2 : vldB M with
    | false => exact add_bad2 L M n c m d A B W hn hm hnc hmd hn63 hm63 hA hB h1 h2
    | true => exact add_good L M n c m d A B W hn hm hnc hmd hn63 hm63 hA hB h1 h2
set_option maxHeartbeats 1000000 in
theorem mul_bad1 (L M : List Int) (n c m d : Nat) (A B : Option Addr) (W : World) (hn : L.length = n) (hm : M.length = m) (hnc : n ≤ c) (hmd : m ≤ d) (hn63 : n ≤ maxLen) (hm63 : m ≤ maxLen) (hA : IntsIn W A L) (hB : IntsIn W B M) (h1 : vldB L = false) :
    Calls Tryz.prog 37 #[.agg #[.slice A n c], .agg #[.slice B m d]] W (NatPost (two L M (lim (val L * val M))) W) := by
  have HA := Lib.hid (hA.below (box3_below W (.slice A n c) (.slice B m d)))
  have HB := Lib.hid (hB.below (box3_below W (.slice A n c) (.slice B m d)))
  have HN := Lib.hid hn
  have HM := Lib.hid hm
  have H1 := Lib.hid h1
  clear hA hB hn hm h1
  go_enter Tryz.func37, Tryz.ntmps37
  go_wp2_with fail
  refine (valid_any L n c A _ HN.out hn63 HA.out).mono ?_
  rintro e w1 ⟨rfl, hb1⟩
  rw [H1.out]
  have HB1 := Lib.hid hb1
  obtain ⟨hc0, hc1, hc2, hf2, hs2, _, _⟩ := three hb1
  clear hb1
  go_wp2
  exact bodyPost_ret (v := .tuple #[.agg #[.slice none 0 0], .int .i64 1]) (by simp [results, Tryz.results37, go_sem, hc2]) rfl (nat_bad (two_no1 _ H1.out) HB1.out)
set_option maxHeartbeats 1000000 in
theorem mul_bad2 (L M : List Int) (n c m d : Nat) (A B : Option Addr) (W : World) (hn : L.length = n) (hm : M.length = m) (hnc : n ≤ c) (hmd : m ≤ d) (hn63 : n ≤ maxLen) (hm63 : m ≤ maxLen) (hA : IntsIn W A L) (hB : IntsIn W B M) (h1 : vldB L = true) (h2 : vldB M = false) :
    Calls Tryz.prog 37 #[.agg #[.slice A n c], .agg #[.slice B m d]] W (NatPost (two L M (lim (val L * val M))) W) := by
  have HA := Lib.hid (hA.below (box3_below W (.slice A n c) (.slice B m d)))
  have HB := Lib.hid (hB.below (box3_below W (.slice A n c) (.slice B m d)))
  have HN := Lib.hid hn
  have HM := Lib.hid hm
  have H1 := Lib.hid h1
  have H2 := Lib.hid h2
  clear hA hB hn hm h1 h2
  go_enter Tryz.func37, Tryz.ntmps37
  go_wp2_with fail
  refine (valid_any L n c A _ HN.out hn63 HA.out).mono ?_
  rintro e w1 ⟨rfl, hb1⟩
  rw [H1.out]
  have HB1 := Lib.hid hb1
  obtain ⟨hc0, hc1, hc2, hf2, hs2, _, _⟩ := three hb1
  clear hb1
  go_wp2_with fail
  refine (valid_any M m d B _ HM.out hm63 (HB.out.below HB1.out)).mono ?_
  rintro e w2 ⟨rfl, hb2⟩
  rw [H2.out]
  have HB2 := Lib.hid (box_go HB1.out hb2)
  clear hc0 hc1 hc2 hf2 hs2 hb2
  obtain ⟨hc0, hc1, hc2, hf2, hs2, _, _⟩ := three HB2.out
  go_wp2
  exact bodyPost_ret (v := .tuple #[.agg #[.slice none 0 0], .int .i64 1]) (by simp [results, Tryz.results37, go_sem, hc2]) rfl (nat_bad (two_no2 _ H2.out) HB2.out)
set_option maxHeartbeats 2000000 in
theorem mul_good (L M : List Int) (n c m d : Nat) (A B : Option Addr) (W : World) (hn : L.length = n) (hm : M.length = m) (hnc : n ≤ c) (hmd : m ≤ d) (hn63 : n ≤ maxLen) (hm63 : m ≤ maxLen) (hA : IntsIn W A L) (hB : IntsIn W B M) (h1 : vldB L = true) (h2 : vldB M = true) :
    Calls Tryz.prog 37 #[.agg #[.slice A n c], .agg #[.slice B m d]] W (NatPost (two L M (lim (val L * val M))) W) := by
  rw [two_ok _ h1 h2]
  obtain ⟨l1, d1, e1, p1, q1⟩ := vldB_true h1
  obtain ⟨l2, d2, e2, p2, q2⟩ := vldB_true h2
  have hn2 : n ≤ 200 := by omega
  have hm2 : m ≤ 200 := by omega
  have HA := Lib.hid (hA.below (box3_below W (.slice A n c) (.slice B m d)))
  have HB := Lib.hid (hB.below (box3_below W (.slice A n c) (.slice B m d)))
  have HN := Lib.hid hn
  have HM := Lib.hid hm
  have H1 := Lib.hid h1
  have H2 := Lib.hid h2
  have D1 := Lib.hid d1
  have D2 := Lib.hid d2
  have E1 := Lib.hid e1
  have E2 := Lib.hid e2
  clear hA hB hn hm h1 h2 d1 d2 e1 e2 q1 q2 l1 l2
  go_enter Tryz.func37, Tryz.ntmps37
  go_wp2_with fail
  refine (valid_any L n c A _ HN.out hn63 HA.out).mono ?_
  rintro e w1 ⟨rfl, hb1⟩
  rw [H1.out]
  have HB1 := Lib.hid hb1
  obtain ⟨hc0, hc1, hc2, hf2, hs2, _, _⟩ := three hb1
  clear hb1
  go_wp2_with fail
  refine (valid_any M m d B _ HM.out hm63 (HB.out.below HB1.out)).mono ?_
  rintro e w2 ⟨rfl, hb2⟩
  rw [H2.out]
  have HB2 := Lib.hid (box_go HB1.out hb2)
  clear hc0 hc1 hc2 hf2 hs2 hb2
  obtain ⟨hc0, hc1, hc2, hf2, hs2, _, _⟩ := three HB2.out
  go_wp2_with fail
  refine (product_any n c m d L M A B _ HN.out HM.out (by omega) (by omega) D1.out D2.out (HA.out.below HB2.out) (HB.out.below HB2.out)).mono ?_
  rintro e w3 ⟨A3, c3, rfl, hi3, hl3, hm3, hb3⟩
  obtain ⟨k, hk⟩ : ∃ k, k = (digs (val L * val M)).length := ⟨_, rfl⟩
  rw [← hk] at hl3 ⊢
  have HI3 := Lib.hid hi3
  have HK := Lib.hid hk
  have HB3 := Lib.hid (box_go HB2.out hb3)
  clear hc0 hc1 hc2 hf2 hs2 hb3 hi3 hk
  obtain ⟨hc0, hc1, hc2, hf2, hs2, _, _⟩ := three HB3.out
  go_wp2_with fail
  refine (limited_any (val L * val M) k c3 A3 _ HK.out.symm hl3 hm3 HI3.out).mono ?_
  rintro e w4 ⟨A4, c4, rfl, hi4, hl4, hm4, hb4⟩
  have HB4 := Lib.hid (box_go HB3.out hb4)
  obtain ⟨k4, hk4⟩ : ∃ k, k = (digs (lim (val L * val M)).1).length := ⟨_, rfl⟩
  obtain ⟨x4, hx4⟩ : ∃ x, x = (lim (val L * val M)).2 := ⟨_, rfl⟩
  obtain ⟨_, _, _, _, _, h6, h7⟩ := three HB4.out
  have R := Lib.hid (nat_store (W := W) hk4 hi4 hl4 hm4 h6 h7 (by omega))
  rw [← hx4] at R
  rw [← hk4, ← hx4]
  clear hc0 hc1 hc2 hf2 hs2 hb4 hi4 hk4 hx4 hl4 h6 h7
  obtain ⟨hc0, hc1, hc2, hf2, hs2, _, _⟩ := three HB4.out
  go_wp2_with fail
  exact bodyPost_ret (v := .tuple #[.agg #[.slice A4 k4 c4], .int .i64 x4]) (by simp [results, Tryz.results37, go_sem, hc2]) rfl R.out
theorem mul_any (L M : List Int) (n c m d : Nat) (A B : Option Addr) (W : World) (hn : L.length = n) (hm : M.length = m) (hnc : n ≤ c) (hmd : m ≤ d) (hn63 : n ≤ maxLen) (hm63 : m ≤ maxLen) (hA : IntsIn W A L) (hB : IntsIn W B M) :
    Calls Tryz.prog 37 #[.agg #[.slice A n c], .agg #[.slice B m d]] W (NatPost (two L M (lim (val L * val M))) W) := by
  cases h1 : vldB L with
  | false => exact mul_bad1 L M n c m d A B W hn hm hnc hmd hn63 hm63 hA hB h1
  | true =>
    cases h2 : vldB M with
    | false => exact mul_bad2 L M n c m d A B W hn hm hnc hmd hn63 hm63 hA hB h1 h2
    | true => exact mul_good L M n c m d A B W hn hm hnc hmd hn63 hm63 hA hB h1 h2
set_option maxHeartbeats 1000000 in
theorem sub_bad1 (L M : List Int) (n c m d : Nat) (A B : Option Addr) (W : World) (hn : L.length = n) (hm : M.length = m) (hnc : n ≤ c) (hmd : m ≤ d) (hn63 : n ≤ maxLen) (hm63 : m ≤ maxLen) (hA : IntsIn W A L) (hB : IntsIn W B M) (h1 : vldB L = false) :
    Calls Tryz.prog 69 #[.agg #[.slice A n c], .agg #[.slice B m d]] W (NatPost (two L M (subR (val L) (val M))) W) := by
  have HA := Lib.hid (hA.below (box3_below W (.slice A n c) (.slice B m d)))
  have HB := Lib.hid (hB.below (box3_below W (.slice A n c) (.slice B m d)))
  have HN := Lib.hid hn
  have HM := Lib.hid hm
  have H1 := Lib.hid h1
  clear hA hB hn hm h1
  go_enter Tryz.func69, Tryz.ntmps69
  go_wp2_with fail
  refine (valid_any L n c A _ HN.out hn63 HA.out).mono ?_
  rintro e w1 ⟨rfl, hb1⟩
  rw [H1.out]
  have HB1 := Lib.hid hb1
  obtain ⟨hc0, hc1, hc2, hf2, hs2, _, _⟩ := three hb1
  clear hb1
  go_wp2
  exact bodyPost_ret (v := .tuple #[.agg #[.slice none 0 0], .int .i64 1]) (by simp [results, Tryz.results69, go_sem, hc2]) rfl (nat_bad (two_no1 _ H1.out) HB1.out)
set_option maxHeartbeats 1000000 in
theorem sub_bad2 (L M : List Int) (n c m d : Nat) (A B : Option Addr) (W : World) (hn : L.length = n) (hm : M.length = m) (hnc : n ≤ c) (hmd : m ≤ d) (hn63 : n ≤ maxLen) (hm63 : m ≤ maxLen) (hA : IntsIn W A L) (hB : IntsIn W B M) (h1 : vldB L = true) (h2 : vldB M = false) :
    Calls Tryz.prog 69 #[.agg #[.slice A n c], .agg #[.slice B m d]] W (NatPost (two L M (subR (val L) (val M))) W) := by
  have HA := Lib.hid (hA.below (box3_below W (.slice A n c) (.slice B m d)))
  have HB := Lib.hid (hB.below (box3_below W (.slice A n c) (.slice B m d)))
  have HN := Lib.hid hn
  have HM := Lib.hid hm
  have H1 := Lib.hid h1
  have H2 := Lib.hid h2
  clear hA hB hn hm h1 h2
  go_enter Tryz.func69, Tryz.ntmps69
  go_wp2_with fail
  refine (valid_any L n c A _ HN.out hn63 HA.out).mono ?_
  rintro e w1 ⟨rfl, hb1⟩
  rw [H1.out]
  have HB1 := Lib.hid hb1
  obtain ⟨hc0, hc1, hc2, hf2, hs2, _, _⟩ := three hb1
  clear hb1
  go_wp2_with fail
  refine (valid_any M m d B _ HM.out hm63 (HB.out.below HB1.out)).mono ?_
  rintro e w2 ⟨rfl, hb2⟩
  rw [H2.out]
  have HB2 := Lib.hid (box_go HB1.out hb2)
  clear hc0 hc1 hc2 hf2 hs2 hb2
  obtain ⟨hc0, hc1, hc2, hf2, hs2, _, _⟩ := three HB2.out
  go_wp2
  exact bodyPost_ret (v := .tuple #[.agg #[.slice none 0 0], .int .i64 1]) (by simp [results, Tryz.results69, go_sem, hc2]) rfl (nat_bad (two_no2 _ H2.out) HB2.out)
set_option maxHeartbeats 2000000 in
theorem sub_good (L M : List Int) (n c m d : Nat) (A B : Option Addr) (W : World) (hn : L.length = n) (hm : M.length = m) (hnc : n ≤ c) (hmd : m ≤ d) (hn63 : n ≤ maxLen) (hm63 : m ≤ maxLen) (hA : IntsIn W A L) (hB : IntsIn W B M) (h1 : vldB L = true) (h2 : vldB M = true) :
    Calls Tryz.prog 69 #[.agg #[.slice A n c], .agg #[.slice B m d]] W (NatPost (two L M (subR (val L) (val M))) W) := by
  rw [two_ok _ h1 h2]
  obtain ⟨l1, d1, e1, p1, q1⟩ := vldB_true h1
  obtain ⟨l2, d2, e2, p2, q2⟩ := vldB_true h2
  have hn2 : n ≤ 200 := by omega
  have hm2 : m ≤ 200 := by omega
  have HA := Lib.hid (hA.below (box3_below W (.slice A n c) (.slice B m d)))
  have HB := Lib.hid (hB.below (box3_below W (.slice A n c) (.slice B m d)))
  have HN := Lib.hid hn
  have HM := Lib.hid hm
  have H1 := Lib.hid h1
  have H2 := Lib.hid h2
  have D1 := Lib.hid d1
  have D2 := Lib.hid d2
  have E1 := Lib.hid e1
  have E2 := Lib.hid e2
  clear hA hB hn hm h1 h2 d1 d2 e1 e2 q1 q2 l1 l2
  have HCMP := Lib.hid (show cmpL L M = sgn (val L - val M) by
    have := cmpL_digs p1 p2
    rwa [← E1.out, ← E2.out] at this)
  go_enter Tryz.func69, Tryz.ntmps69
  go_wp2_with fail
  refine (valid_any L n c A _ HN.out hn63 HA.out).mono ?_
  rintro e w1 ⟨rfl, hb1⟩
  rw [H1.out]
  have HB1 := Lib.hid hb1
  obtain ⟨hc0, hc1, hc2, hf2, hs2, _, _⟩ := three hb1
  clear hb1
  go_wp2_with fail
  refine (valid_any M m d B _ HM.out hm63 (HB.out.below HB1.out)).mono ?_
  rintro e w2 ⟨rfl, hb2⟩
  rw [H2.out]
  have HB2 := Lib.hid (box_go HB1.out hb2)
  clear hc0 hc1 hc2 hf2 hs2 hb2
  obtain ⟨hc0, hc1, hc2, hf2, hs2, _, _⟩ := three HB2.out
  go_wp2_with fail
  refine (cmp_any L M n c m d A B _ HN.out HM.out hn63 hm63 (HA.out.below HB2.out) (HB.out.below HB2.out)).mono ?_
  rintro e w3 ⟨rfl, hb3⟩
  rw [HCMP.out]
  have HB3 := Lib.hid (box_go HB2.out hb3)
  clear hc0 hc1 hc2 hf2 hs2 hb3
  obtain ⟨hc0, hc1, hc2, hf2, hs2, _, _⟩ := three HB3.out
  by_cases hlt : val L < val M
  · have hs : sgn (val L - val M) = -1 := by unfold sgn; rw [if_pos (by omega)]
    have HR := Lib.hid (show subR (val L) (val M) = (0, 6) by unfold subR; rw [if_pos hlt])
    rw [hs]
    clear hs
    go_wp2
    exact bodyPost_ret (v := .tuple #[.agg #[.slice none 0 0], .int .i64 6]) (by simp [results, Tryz.results69, go_sem, hc2]) rfl (nat_bad HR.out HB3.out)
  · have hs : 0 ≤ sgn (val L - val M) := by unfold sgn; split <;> (try split) <;> omega
    have HR := Lib.hid (show subR (val L) (val M) = (val L - val M, 0) by unfold subR; rw [if_neg hlt])
    have hnm : m ≤ n := by
      by_cases c0 : m ≤ n
      · exact c0
      · have : cmpL L M = -1 := cmpL_lt (by rw [HN.out, HM.out]; omega)
        have := HCMP.out
        omega
    obtain ⟨s, hs'⟩ : ∃ s, s = sgn (val L - val M) := ⟨_, rfl⟩
    rw [← hs'] at hs ⊢
    clear hs'
    have hs3 : decide (s < 0) = false := by simp; omega
    go_wp2_with fail
    refine (difference_any n c m d L M A B _ HN.out HM.out (by omega) hnm D1.out D2.out (by omega) (HA.out.below HB3.out) (HB.out.below HB3.out)).mono ?_
    rintro e w4 ⟨A4, c4, rfl, hi4, hl4, hm4, hb4⟩
    have HB4 := Lib.hid (box_go HB3.out hb4)
    obtain ⟨k4, hk4⟩ : ∃ k, k = (digs (val L - val M)).length := ⟨_, rfl⟩
    obtain ⟨_, _, _, _, _, h6, h7⟩ := three HB4.out
    have R := Lib.hid (nat_store (r := (val L - val M, 0)) (W := W) hk4 hi4 hl4 hm4 h6 h7 (by omega))
    rw [← hk4]
    clear hc0 hc1 hc2 hf2 hs2 hb4 hi4 hk4 hl4 h6 h7
    obtain ⟨hc0, hc1, hc2, hf2, hs2, _, _⟩ := three HB4.out
    go_wp2_with fail
    exact bodyPost_ret (v := .tuple #[.agg #[.slice A4 k4 c4], .int .i64 0]) (by simp [results, Tryz.results69, go_sem, hc2]) rfl (by rw [HR.out]; exact R.out)
theorem sub_any (L M : List Int) (n c m d : Nat) (A B : Option Addr) (W : World) (hn : L.length = n) (hm : M.length = m) (hnc : n ≤ c) (hmd : m ≤ d) (hn63 : n ≤ maxLen) (hm63 : m ≤ maxLen) (hA : IntsIn W A L) (hB : IntsIn W B M) :
    Calls Tryz.prog 69 #[.agg #[.slice A n c], .agg #[.slice B m d]] W (NatPost (two L M (subR (val L) (val M))) W) := by
  cases h1 : vldB L with
  | false => exact sub_bad1 L M n c m d A B W hn hm hnc hmd hn63 hm63 hA hB h1
  | true =>
    cases h2 : vldB M with
    | false => exact sub_bad2 L M n c m d A B W hn hm hnc hmd hn63 hm63 hA hB h1 h2
    | true => exact sub_good L M n c m d A B W hn hm hnc hmd hn63 hm63 hA hB h1 h2
end Go.Proofs.YtkfkefgkepoaaaaGreatDoor
