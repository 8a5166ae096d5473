/- Contracts of Div of the program. -/
import Derived.Test.YtkfkefgkepoaaaaGreatDoorNWj
namespace Go.Proofs.YtkfkefgkepoaaaaGreatDoor
open Go.RowKit
set_option linter.unusedVariables false
set_option maxRecDepth 100000

abbrev box4 (W : World) (a b : Value) : World := (box3 W a b).alloc (.cells #[.slice none 0 0] 30)
theorem box4_size (W : World) (a b : Value) : (box4 W a b).heap.size = W.heap.size + 4 := by simp [box4, box3]
theorem box4_below (W : World) (a b : Value) : Below W.heap.size W (box4 W a b) := (box3_below W a b).alloc (by rw [box3_size]; omega) _
theorem four {W w : World} {a b : Value} (hb : Below (box4 W a b).heap.size (box4 W a b) w) :
    w.cell? ⟨W.heap.size, 0, none⟩ = some a ∧ w.cell? ⟨W.heap.size + 1, 0, none⟩ = some b ∧ w.cell? ⟨W.heap.size + 1 + 1, 0, none⟩ = some (.slice none 0 0) ∧ w.frozen? ⟨W.heap.size + 1 + 1, 0, none⟩ = false ∧ w.cell? ⟨W.heap.size + 1 + 1 + 1, 0, none⟩ = some (.slice none 0 0) ∧ w.frozen? ⟨W.heap.size + 1 + 1 + 1, 0, none⟩ = false ∧
      W.heap.size + 1 + 1 + 1 < w.heap.size ∧ Below W.heap.size W w ∧ w.heap[W.heap.size + 1 + 1]? = some (.cells #[.slice none 0 0] 30 (0, 0)) ∧ w.heap[W.heap.size + 1 + 1 + 1]? = some (.cells #[.slice none 0 0] 30 (0, 0)) := by
  have s3 := box3_size W a b
  have h3 : Below (box3 W a b).heap.size (box3 W a b) w := ((Below.refl _ _).alloc (Nat.le_refl _) _).trans (hb.mono (by rw [box4_size, s3]; omega))
  obtain ⟨c0, c1, c2, f2, _, hbel, b2⟩ := three h3
  have b3 : w.heap[W.heap.size + 1 + 1 + 1]? = some (.cells #[.slice none 0 0] 30 (0, 0)) := by
    rw [hb.block _ (by rw [box4_size]; omega)]; unfold box4
    have := heap_alloc_new (box3 W a b) (.cells #[.slice none 0 0] 30)
    rwa [s3] at this
  refine ⟨c0, c1, c2, f2, ?_, ?_, ?_, hbel, b2, b3⟩
  · rw [cell_of_row w _ 0 _ _ _ b3]; rfl
  · simp [World.frozen?, b3]
  · have := hb.size; rw [box4_size] at this; omega
/-- A call that returns two numbers and an error. -/
def NatPost2 (r : Int × Int × Int) (W : World) (e : Ending) (w' : World) : Prop :=
  ∃ A c B d, e = .returned (.tuple #[.agg #[.slice A (digs r.1).length c], .agg #[.slice B (digs r.2.1).length d], .int .i64 r.2.2]) ∧ IntsIn w' A (digs r.1) ∧ (digs r.1).length ≤ c ∧ c ≤ maxLen ∧ IntsIn w' B (digs r.2.1) ∧ (digs r.2.1).length ≤ d ∧ d ≤ maxLen ∧ Below W.heap.size W w'
def two2 (L M : List Int) (r : Int × Int × Int) : Int × Int × Int := if vldB L = true ∧ vldB M = true then r else (0, 0, 1)
theorem two2_no1 {L M : List Int} (r : Int × Int × Int) (h : vldB L = false) : two2 L M r = (0, 0, 1) := by unfold two2; rw [if_neg (by simp [h])]
theorem two2_no2 {L M : List Int} (r : Int × Int × Int) (h : vldB M = false) : two2 L M r = (0, 0, 1) := by unfold two2; rw [if_neg (by simp [h])]
theorem two2_ok {L M : List Int} (r : Int × Int × Int) (h : vldB L = true) (h2 : vldB M = true) : two2 L M r = r := by unfold two2; rw [if_pos ⟨h, h2⟩]
def divR (x y : Int) : Int × Int × Int := if y = 0 then (0, 0, 6) else (x / y, x % y, 0)
theorem nat2_bad {r : Int × Int × Int} {x : Int} {W w : World} {a b : Value} (h : r = (0, 0, x)) (hb : Below (box4 W a b).heap.size (box4 W a b) w) : NatPost2 r W (.returned (.tuple #[.agg #[.slice none 0 0], .agg #[.slice none 0 0], .int .i64 x])) ((w.setCell ⟨W.heap.size + 1 + 1, 0, none⟩ (.slice none 0 0)).setCell ⟨W.heap.size + 1 + 1 + 1, 0, none⟩ (.slice none 0 0)) := by
  obtain ⟨_, _, _, _, _, _, _, h6, _⟩ := four hb
  subst h
  refine ⟨none, 0, none, 0, by simp [digs_zero], by rw [digs_zero]; exact IntsIn.nil _ _, by simp [digs_zero], Nat.zero_le _, by rw [digs_zero]; exact IntsIn.nil _ _, by simp [digs_zero], Nat.zero_le _, ?_⟩
  exact (h6.setCell (p := ⟨W.heap.size + 1 + 1, 0, none⟩) (by simp; omega) _).setCell (p := ⟨W.heap.size + 1 + 1 + 1, 0, none⟩) (by simp; omega) _
theorem nat2_store {x y : Int} {k l : Nat} {A B : Option Addr} {c d : Nat} {W w : World} {a b : Value} (hk : k = (digs x).length) (hl : l = (digs y).length) (hi : IntsIn w A (digs x)) (hc : (digs x).length ≤ c) (hm : c ≤ maxLen) (hi2 : IntsIn w B (digs y)) (hc2 : (digs y).length ≤ d) (hm2 : d ≤ maxLen)
    (hb : Below (box4 W a b).heap.size (box4 W a b) w) :
    NatPost2 (x, y, 0) W (.returned (.tuple #[.agg #[.slice A k c], .agg #[.slice B l d], .int .i64 0])) ((w.setCell ⟨W.heap.size + 1 + 1, 0, none⟩ (.slice A k c)).setCell ⟨W.heap.size + 1 + 1 + 1, 0, none⟩ (.slice B l d)) := by
  subst hk; subst hl
  obtain ⟨_, _, _, _, _, _, _, h6, h7, h8⟩ := four hb
  have h8' : (w.setCell ⟨W.heap.size + 1 + 1, 0, none⟩ (.slice A (digs x).length c)).heap[W.heap.size + 1 + 1 + 1]? = some (.cells #[.slice none 0 0] 30 (0, 0)) := by
    rw [Below.heap_setCell _ _ _ _ (by simp)]; exact h8
  refine ⟨A, c, B, d, rfl, (hi.store (x := .slice none 0 0) h7).store (x := .slice none 0 0) h8', hc, hm, (hi2.store (x := .slice none 0 0) h7).store (x := .slice none 0 0) h8', hc2, hm2, ?_⟩
  exact (h6.setCell (p := ⟨W.heap.size + 1 + 1, 0, none⟩) (by simp; omega) _).setCell (p := ⟨W.heap.size + 1 + 1 + 1, 0, none⟩) (by simp; omega) _
theorem box4_go {W w w' : World} {a b : Value} (h : Below (box4 W a b).heap.size (box4 W a b) w) (h2 : Below w.heap.size w w') : Below (box4 W a b).heap.size (box4 W a b) w' := btwo h h2
theorem val_zero_iff {M : List Int} (h : M = digs (val M)) (h0 : 0 ≤ val M) : val M = 0 ↔ M.length = 0 := by
  constructor
  · intro e; rw [e, digs_zero] at h; rw [h]; rfl
  · intro e; rw [List.eq_nil_of_length_eq_zero e]; rfl
set_option maxHeartbeats 1000000 in
theorem div_bad1 (L M : List Int) (n c m d : Nat) (A B : Option Addr) (W : World) (hn : L.length = n) (hm : M.length = m) (hnc : n ≤ c) (hmd : m ≤ d) (hn63 : n ≤ maxLen) (hm63 : m ≤ maxLen) (hA : IntsIn W A L) (hB : IntsIn W B M) (h1 : vldB L = false) :
    Calls Tryz.prog 50 #[.agg #[.slice A n c], .agg #[.slice B m d]] W (NatPost2 (two2 L M (divR (val L) (val M))) W) := by
  have HA := Lib.hid (hA.below (box4_below W (.slice A n c) (.slice B m d)))
  have HB := Lib.hid (hB.below (box4_below W (.slice A n c) (.slice B m d)))
  have HN := Lib.hid hn
  have HM := Lib.hid hm
  have H1 := Lib.hid h1
  clear hA hB hn hm h1
  go_enter Tryz.func50, Tryz.ntmps50
  go_wp2_with fail
  refine (valid_any L n c A _ HN.out hn63 HA.out).mono ?_
  rintro e w1 ⟨rfl, hb1⟩
  rw [H1.out]
  have HB1 := Lib.hid hb1
  obtain ⟨hc0, hc1, hc2, hf2, hc3, hf3, hs2, _, _, _⟩ := four hb1
  clear hb1
  go_wp2
  exact bodyPost_ret (v := .tuple #[.agg #[.slice none 0 0], .agg #[.slice none 0 0], .int .i64 1]) (by simp [results, Tryz.results50, go_sem, hc2, hc3]) rfl (nat2_bad (two2_no1 _ H1.out) HB1.out)
set_option maxHeartbeats 1000000 in
theorem div_bad2 (L M : List Int) (n c m d : Nat) (A B : Option Addr) (W : World) (hn : L.length = n) (hm : M.length = m) (hnc : n ≤ c) (hmd : m ≤ d) (hn63 : n ≤ maxLen) (hm63 : m ≤ maxLen) (hA : IntsIn W A L) (hB : IntsIn W B M) (h1 : vldB L = true) (h2 : vldB M = false) :
    Calls Tryz.prog 50 #[.agg #[.slice A n c], .agg #[.slice B m d]] W (NatPost2 (two2 L M (divR (val L) (val M))) W) := by
  have HA := Lib.hid (hA.below (box4_below W (.slice A n c) (.slice B m d)))
  have HB := Lib.hid (hB.below (box4_below W (.slice A n c) (.slice B m d)))
  have HN := Lib.hid hn
  have HM := Lib.hid hm
  have H1 := Lib.hid h1
  have H2 := Lib.hid h2
  clear hA hB hn hm h1 h2
  go_enter Tryz.func50, Tryz.ntmps50
  go_wp2_with fail
  refine (valid_any L n c A _ HN.out hn63 HA.out).mono ?_
  rintro e w1 ⟨rfl, hb1⟩
  rw [H1.out]
  have HB1 := Lib.hid hb1
  obtain ⟨hc0, hc1, hc2, hf2, hc3, hf3, hs2, _, _, _⟩ := four hb1
  clear hb1
  go_wp2_with fail
  refine (valid_any M m d B _ HM.out hm63 (HB.out.below HB1.out)).mono ?_
  rintro e w2 ⟨rfl, hb2⟩
  rw [H2.out]
  have HB2 := Lib.hid (box4_go HB1.out hb2)
  clear hc0 hc1 hc2 hf2 hc3 hf3 hs2 hb2
  obtain ⟨hc0, hc1, hc2, hf2, hc3, hf3, hs2, _, _, _⟩ := four HB2.out
  go_wp2
  exact bodyPost_ret (v := .tuple #[.agg #[.slice none 0 0], .agg #[.slice none 0 0], .int .i64 1]) (by simp [results, Tryz.results50, go_sem, hc2, hc3]) rfl (nat2_bad (two2_no2 _ H2.out) HB2.out)
set_option maxHeartbeats 2000000 in
theorem div_good (L M : List Int) (n c m d : Nat) (A B : Option Addr) (W : World) (hn : L.length = n) (hm : M.length = m) (hnc : n ≤ c) (hmd : m ≤ d) (hn63 : n ≤ maxLen) (hm63 : m ≤ maxLen) (hA : IntsIn W A L) (hB : IntsIn W B M) (h1 : vldB L = true) (h2 : vldB M = true) :
    Calls Tryz.prog 50 #[.agg #[.slice A n c], .agg #[.slice B m d]] W (NatPost2 (two2 L M (divR (val L) (val M))) W) := by
  rw [two2_ok _ h1 h2]
  obtain ⟨l1, d1, e1, p1, q1⟩ := vldB_true h1
  obtain ⟨l2, d2, e2, p2, q2⟩ := vldB_true h2
  have hn2 : n ≤ 200 := by omega
  have hm2 : m ≤ 200 := by omega
  have HA := Lib.hid (hA.below (box4_below W (.slice A n c) (.slice B m d)))
  have HB := Lib.hid (hB.below (box4_below W (.slice A n c) (.slice B m d)))
  have HZ := Lib.hid (val_zero_iff e2 p2)
  have HN := Lib.hid hn
  have HM := Lib.hid hm
  have H1 := Lib.hid h1
  have H2 := Lib.hid h2
  have E1 := Lib.hid e1
  have E2 := Lib.hid e2
  clear hA hB hn hm h1 h2 d1 d2 e1 e2 q1 q2 l1 l2
  by_cases h0 : m = 0
  · subst h0
    have HR := Lib.hid (show divR (val L) (val M) = (0, 0, 6) by unfold divR; rw [if_pos (HZ.out.2 HM.out)])
    go_enter Tryz.func50, Tryz.ntmps50
    go_wp2_with fail
    refine (valid_any L n c A _ HN.out hn63 HA.out).mono ?_
    rintro e w1 ⟨rfl, hb1⟩
    rw [H1.out]
    have HB1 := Lib.hid hb1
    obtain ⟨hc0, hc1, hc2, hf2, hc3, hf3, hs2, _, _, _⟩ := four hb1
    clear hb1
    go_wp2_with fail
    refine (valid_any M 0 d B _ HM.out hm63 (HB.out.below HB1.out)).mono ?_
    rintro e w2 ⟨rfl, hb2⟩
    rw [H2.out]
    have HB2 := Lib.hid (box4_go HB1.out hb2)
    clear hc0 hc1 hc2 hf2 hc3 hf3 hs2 hb2
    obtain ⟨hc0, hc1, hc2, hf2, hc3, hf3, hs2, _, _, _⟩ := four HB2.out
    go_wp2
    exact bodyPost_ret (v := .tuple #[.agg #[.slice none 0 0], .agg #[.slice none 0 0], .int .i64 6]) (by simp [results, Tryz.results50, go_sem, hc2, hc3]) rfl (nat2_bad HR.out HB2.out)
  · have hv0 : 0 < val M := by
      have : val M ≠ 0 := fun e => h0 (by rw [← HM.out]; exact HZ.out.1 e)
      omega
    have HR := Lib.hid (show divR (val L) (val M) = (val L / val M, val L % val M, 0) by unfold divR; rw [if_neg (by omega)])
    have hm0 : ((m : Int) == 0) = false := by simp; omega
    go_enter Tryz.func50, Tryz.ntmps50
    go_wp2_with fail
    refine (valid_any L n c A _ HN.out hn63 HA.out).mono ?_
    rintro e w1 ⟨rfl, hb1⟩
    rw [H1.out]
    have HB1 := Lib.hid hb1
    obtain ⟨hc0, hc1, hc2, hf2, hc3, hf3, hs2, _, _, _⟩ := four hb1
    clear hb1
    go_wp2_with fail
    refine (valid_any M m d B _ HM.out hm63 (HB.out.below HB1.out)).mono ?_
    rintro e w2 ⟨rfl, hb2⟩
    rw [H2.out]
    have HB2 := Lib.hid (box4_go HB1.out hb2)
    clear hc0 hc1 hc2 hf2 hc3 hf3 hs2 hb2
    obtain ⟨hc0, hc1, hc2, hf2, hc3, hf3, hs2, _, _, _⟩ := four HB2.out
    go_wp2_with fail
    refine (divide_any n c m d (val L) (val M) A B _ (by rw [← E1.out]; exact HN.out) (by rw [← E2.out]; exact HM.out) (by omega) (by omega) p1 hv0 (by rw [← E1.out]; exact HA.out.below HB2.out) (by rw [← E2.out]; exact HB.out.below HB2.out)).mono ?_
    rintro e w3 ⟨A3, c3, B3, d3, rfl, hi3, hl3, hm3, hi4, hl4, hm4, hb3⟩
    have HB3 := Lib.hid (box4_go HB2.out hb3)
    obtain ⟨k, hk⟩ : ∃ k, k = (digs (val L / val M)).length := ⟨_, rfl⟩
    obtain ⟨l, hl⟩ : ∃ k, k = (digs (val L % val M)).length := ⟨_, rfl⟩
    have R := Lib.hid (nat2_store (W := W) hk hl hi3 hl3 hm3 hi4 hl4 hm4 HB3.out)
    rw [← hk, ← hl]
    clear hc0 hc1 hc2 hf2 hc3 hf3 hs2 hb3 hi3 hi4 hk hl hl3 hl4
    obtain ⟨hc0, hc1, hc2, hf2, hc3, hf3, hs2, _, _, _⟩ := four HB3.out
    go_wp2_with fail
    exact bodyPost_ret (v := .tuple #[.agg #[.slice A3 k c3], .agg #[.slice B3 l d3], .int .i64 0]) (by simp [results, Tryz.results50, go_sem, hc2, hc3]) rfl (by rw [HR.out]; exact R.out)
theorem div_any (L M : List Int) (n c m d : Nat) (A B : Option Addr) (W : World) (hn : L.length = n) (hm : M.length = m) (hnc : n ≤ c) (hmd : m ≤ d) (hn63 : n ≤ maxLen) (hm63 : m ≤ maxLen) (hA : IntsIn W A L) (hB : IntsIn W B M) :
    Calls Tryz.prog 50 #[.agg #[.slice A n c], .agg #[.slice B m d]] W (NatPost2 (two2 L M (divR (val L) (val M))) W) := by
  cases h1 : vldB L with
  | false => exact div_bad1 L M n c m d A B W hn hm hnc hmd hn63 hm63 hA hB h1
  | true =>
    cases h2 : vldB M with
    | false => exact div_bad2 L M n c m d A B W hn hm hnc hmd hn63 hm63 hA hB h1 h2
    | true => exact div_good L M n c m d A B W hn hm hnc hmd hn63 hm63 hA hB h1 h2
end Go.Proofs.YtkfkefgkepoaaaaGreatDoor
