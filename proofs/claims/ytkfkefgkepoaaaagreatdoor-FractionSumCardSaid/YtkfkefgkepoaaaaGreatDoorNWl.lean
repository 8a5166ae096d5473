/- Contracts of Gcd and Binomial of the program. -/
import Derived.Test.YtkfkefgkepoaaaaGreatDoorNWk
import Derived.Test.YtkfkefgkepoaaaaGreatDoorNMathB
import Derived.Deep.LoopGhost
namespace Go.Proofs.YtkfkefgkepoaaaaGreatDoor
open Go.RowKit
set_option linter.unusedVariables false
set_option maxRecDepth 100000

/-- A slice that reads as the digits of x, at most 200. -/
def NumAt (w : World) (v : Value) (x : Int) : Prop :=
  0 ≤ x ∧ ∃ A c, v = .slice A (digs x).length c ∧ IntsIn w A (digs x) ∧ (digs x).length ≤ c ∧ c ≤ maxLen ∧ (digs x).length ≤ 200
theorem NumAt.below {w w' : World} {v : Value} {x : Int} (h : NumAt w v x) (hb : Below w.heap.size w w') : NumAt w' v x := by
  obtain ⟨h0, A, c, e, hi, h1, h2, h3⟩ := h
  exact ⟨h0, A, c, e, hi.below hb, h1, h2, h3⟩
def GcdSt (G : Int) (W : World) (a b : Value) (k : Nat) (vx vy : Value) (w : World) : Prop :=
  ∃ x y : Int, NumAt w vx x ∧ NumAt w vy y ∧ gcdI x y = G ∧ y.toNat = k ∧ Below (box3 W a b).heap.size (box3 W a b) w
theorem len_mod {x y : Int} (hx : 0 ≤ x) (hy : 0 < y) (h : (digs y).length ≤ 200) : (digs (x % y)).length ≤ 200 := by
  have h1 := lt_of_len h
  have := Int.emod_lt_of_pos x hy
  exact digs_len_le (by omega)
theorem gcd_post {G : Int} {k : Nat} {A : Option Addr} {c : Nat} {W w w' : World} {a b : Value} (h : ClonePost (digs G) k w (.returned (.slice A k c)) w') (hk : k = (digs G).length) (hb : Below (box3 W a b).heap.size (box3 W a b) w) :
    NatPost (G, 0) W (.returned (.tuple #[.agg #[.slice A k c], .int .i64 0])) (w'.setCell ⟨W.heap.size + 1 + 1, 0, none⟩ (.slice A k c)) := by
  obtain ⟨A', c', he, h1, h2, h3, h4⟩ := h
  injection he with he
  injection he with e1 e2 e3
  subst e1; subst e3
  obtain ⟨_, _, _, _, _, h6, h7⟩ := three (box_go hb h4)
  exact nat_store (r := (G, 0)) hk h1 (show (digs G).length ≤ c by rw [← hk]; exact h2) h3 h6 h7 (by omega)
set_option maxHeartbeats 2000000 in
theorem gcd_good (L M : List Int) (n c m d : Nat) (A B : Option Addr) (W : World) (hn : L.length = n) (hm : M.length = m) (hnc : n ≤ c) (hmd : m ≤ d) (hn63 : n ≤ maxLen) (hm63 : m ≤ maxLen) (hc63 : c ≤ maxLen) (hd63 : d ≤ maxLen) (hA : IntsIn W A L) (hB : IntsIn W B M) (h1 : vldB L = true) (h2 : vldB M = true) :
    Calls Tryz.prog 35 #[.agg #[.slice A n c], .agg #[.slice B m d]] W (NatPost (two L M (gcdI (val L) (val M), 0)) W) := by
  rw [two_ok _ h1 h2]
  obtain ⟨l1, d1, e1, p1, q1⟩ := vldB_true h1
  obtain ⟨l2, d2, e2, p2, q2⟩ := vldB_true h2
  have HA := Lib.hid (hA.below (box3_below W (.slice A n c) (.slice B m d)))
  have HB := Lib.hid (hB.below (box3_below W (.slice A n c) (.slice B m d)))
  have HN := Lib.hid hn
  have HM := Lib.hid hm
  have H1 := Lib.hid h1
  have H2 := Lib.hid h2
  have hs1 : (digs (val L)).length = n := by rw [← e1]; exact hn
  have hs2 : (digs (val M)).length = m := by rw [← e2]; exact hm
  have HX := Lib.hid (fun (w : World) (h : IntsIn w A L) => (⟨p1, A, c, by rw [hs1], by rw [← e1]; exact h, by omega, hc63, by omega⟩ : NumAt w (.slice A n c) (val L)))
  have HY := Lib.hid (fun (w : World) (h : IntsIn w B M) => (⟨p2, B, d, by rw [hs2], by rw [← e2]; exact h, by omega, hd63, by omega⟩ : NumAt w (.slice B m d) (val M)))
  clear hA hB hn hm h1 h2 d1 d2 e1 e2 q1 q2 l1 l2 hs1 hs2
  go_enter Tryz.func35, Tryz.ntmps35
  go_wp2_with fail
  refine (valid_any L n c A _ HN.out hn63 HA.out).mono ?_
  rintro e w1 ⟨rfl, hb1⟩
  rw [H1.out]
  have HB1 := Lib.hid hb1
  obtain ⟨hc0, hc1, hc2, hf2, hs2, _, _⟩ := three hb1
  clear hb1
  go_wp2_with fail
  refine (valid_any M m d B _ HM.out hm63 (HB.out.below HB1.out)).mono ?_
  rintro e w2 ⟨rfl, hb2⟩
  rw [H2.out]
  have HB2 := Lib.hid (box_go HB1.out hb2)
  clear hc0 hc1 hc2 hf2 hs2 hb2
  obtain ⟨hc0, hc1, hc2, hf2, hs2, _, _⟩ := three HB2.out
  go_wp2_with fail
  go_quiet (fail)
  go_wp2_with fail
  go_loopg [6, 7] ((val M).toNat) (fun k vx vy wr => GcdSt (gcdI (val L) (val M)) W (.slice A n c) (.slice B m d) k vx vy wr)
  case atStart =>
    exact ⟨val L, val M, HX.out _ (HA.out.below (bdr HB2.out _)), HY.out _ (HB.out.below (bdr HB2.out _)), rfl, rfl, bdr HB2.out _⟩
  case round =>
    clear hc0 hc1 hc2 hf2 hs2
    obtain ⟨x, y, ⟨hx0, A1, c1, rfl, hi1, hl1, hm1, hz1⟩, ⟨hy0, A2, c2, rfl, hi2, hl2, hm2, hz2⟩, hG, hk, hb⟩ := hrel
    have HI1 := Lib.hid hi1
    have HI2 := Lib.hid hi2
    have HG := Lib.hid hG
    have HK := Lib.hid hk
    have HBW := Lib.hid hb
    obtain ⟨hc0, hc1, hc2, hf2, hs2, _, _⟩ := three hb
    obtain ⟨k1, hk1⟩ : ∃ k, k = (digs x).length := ⟨_, rfl⟩
    obtain ⟨k2, hk2⟩ : ∃ k, k = (digs y).length := ⟨_, rfl⟩
    rw [← hk1] at hl1 hz1 ⊢
    rw [← hk2] at hl2 hz2 ⊢
    have HK1 := Lib.hid hk1
    have HK2 := Lib.hid hk2
    clear hi1 hi2 hG hk hb hk1 hk2
    by_cases hy : 0 < y
    · have hk20 : 0 < k2 := by rw [HK2.out, digs_pos hy]; simp
      have hk21 : (0 : Int) < (k2 : Int) := by omega
      go_wp2_with fail
      refine (divide_any k1 c1 k2 c2 x y A1 A2 _ HK1.out.symm HK2.out.symm (by omega) (by omega) hx0 hy HI1.out HI2.out).mono ?_
      rintro e w3 ⟨A3, c3, B3, d3, rfl, hi3, hl3, hm3, hi4, hl4, hm4, hb3⟩
      have hmod := Int.emod_lt_of_pos x hy
      have hmod0 := Int.emod_nonneg x (show y ≠ 0 by omega)
      have R := Lib.hid (show GcdSt (gcdI (val L) (val M)) W (.slice A n c) (.slice B m d) (x % y).toNat (.slice A2 k2 c2) (.slice B3 (digs (x % y)).length d3) w3 from
        ⟨y, x % y, ⟨hy0, A2, c2, by rw [HK2.out], HI2.out.below hb3, by rw [← HK2.out]; exact hl2, hm2, by rw [← HK2.out]; exact hz2⟩, ⟨hmod0, B3, d3, rfl, hi4, hl4, hm4, len_mod hx0 hy (by rw [← HK2.out]; exact hz2)⟩, by rw [gcdI_step hx0 hy]; exact HG.out, rfl, box_go HBW.out hb3⟩)
      have hdec : (x % y).toNat < gk := by rw [← HK.out]; omega
      obtain ⟨k3, hk3⟩ : ∃ k, k = (digs (x / y)).length := ⟨_, rfl⟩
      obtain ⟨k4, hk4⟩ : ∃ k, k = (digs (x % y)).length := ⟨_, rfl⟩
      rw [← hk4] at R
      rw [← hk3, ← hk4]
      clear hi3 hl3 hi4 hl4 hb3 hk3 hk4
      go_wp2_with fail
      go_roundg (x % y).toNat
      case measure => exact hdec
      case rel => exact R.out
    · obtain rfl : y = 0 := by omega
      have hk20 : k2 = 0 := by rw [HK2.out, digs_zero]; rfl
      subst hk20
      have hGx : gcdI (val L) (val M) = x := by rw [← HG.out, gcdI_zero hx0]
      have HGX := Lib.hid hGx
      clear hGx
      go_wp2_with fail
      refine (clone_any (digs x) k1 c1 A1 _ HK1.out.symm (by omega) HI1.out).mono ?_
      rintro e w3 ⟨A3, c3, rfl, hi3, hl3, hm3, hb3⟩
      have R := Lib.hid (gcd_post (G := x) (W := W) ⟨A3, c3, rfl, hi3, hl3, hm3, hb3⟩ HK1.out HBW.out)
      have HB3 := Lib.hid (box_go HBW.out hb3)
      clear hi3 hl3 hm3 hb3 hc0 hc1 hc2 hf2 hs2
      obtain ⟨hc0, hc1, hc2, hf2, hs2, _, _⟩ := three HB3.out
      go_wp2_with fail
      exact bodyPost_ret (v := .tuple #[.agg #[.slice A3 k1 c3], .int .i64 0]) (by simp [results, Tryz.results35, go_sem, hc2]) rfl (by rw [HGX.out]; exact R.out)
set_option maxHeartbeats 1000000 in
theorem gcd_bad1 (L M : List Int) (n c m d : Nat) (A B : Option Addr) (W : World) (hn : L.length = n) (hm : M.length = m) (hnc : n ≤ c) (hmd : m ≤ d) (hn63 : n ≤ maxLen) (hm63 : m ≤ maxLen) (hA : IntsIn W A L) (hB : IntsIn W B M) (h1 : vldB L = false) :
    Calls Tryz.prog 35 #[.agg #[.slice A n c], .agg #[.slice B m d]] W (NatPost (two L M (gcdI (val L) (val M), 0)) W) := by
  have HA := Lib.hid (hA.below (box3_below W (.slice A n c) (.slice B m d)))
  have HB := Lib.hid (hB.below (box3_below W (.slice A n c) (.slice B m d)))
  have HN := Lib.hid hn
  have HM := Lib.hid hm
  have H1 := Lib.hid h1
  clear hA hB hn hm h1
  go_enter Tryz.func35, Tryz.ntmps35
  go_wp2_with fail
  refine (valid_any L n c A _ HN.out hn63 HA.out).mono ?_
  rintro e w1 ⟨rfl, hb1⟩
  rw [H1.out]
  have HB1 := Lib.hid hb1
  obtain ⟨hc0, hc1, hc2, hf2, hs2, _, _⟩ := three hb1
  clear hb1
  go_wp2
  exact bodyPost_ret (v := .tuple #[.agg #[.slice none 0 0], .int .i64 1]) (by simp [results, Tryz.results35, go_sem, hc2]) rfl (nat_bad (two_no1 _ H1.out) HB1.out)
set_option maxHeartbeats 1000000 in
theorem gcd_bad2 (L M : List Int) (n c m d : Nat) (A B : Option Addr) (W : World) (hn : L.length = n) (hm : M.length = m) (hnc : n ≤ c) (hmd : m ≤ d) (hn63 : n ≤ maxLen) (hm63 : m ≤ maxLen) (hA : IntsIn W A L) (hB : IntsIn W B M) (h1 : vldB L = true) (h2 : vldB M = false) :
    Calls Tryz.prog 35 #[.agg #[.slice A n c], .agg #[.slice B m d]] W (NatPost (two L M (gcdI (val L) (val M), 0)) W) := by
  have HA := Lib.hid (hA.below (box3_below W (.slice A n c) (.slice B m d)))
  have HB := Lib.hid (hB.below (box3_below W (.slice A n c) (.slice B m d)))
  have HN := Lib.hid hn
  have HM := Lib.hid hm
  have H1 := Lib.hid h1
  have H2 := Lib.hid h2
  clear hA hB hn hm h1 h2
  go_enter Tryz.func35, Tryz.ntmps35
  go_wp2_with fail
  refine (valid_any L n c A _ HN.out hn63 HA.out).mono ?_
  rintro e w1 ⟨rfl, hb1⟩
  rw [H1.out]
  have HB1 := Lib.hid hb1
  obtain ⟨hc0, hc1, hc2, hf2, hs2, _, _⟩ := three hb1
  clear hb1
  go_wp2_with fail
  refine (valid_any M m d B _ HM.out hm63 (HB.out.below HB1.out)).mono ?_
  rintro e w2 ⟨rfl, hb2⟩
  rw [H2.out]
  have HB2 := Lib.hid (box_go HB1.out hb2)
  clear hc0 hc1 hc2 hf2 hs2 hb2
  obtain ⟨hc0, hc1, hc2, hf2, hs2, _, _⟩ := three HB2.out
  go_wp2
  exact bodyPost_ret (v := .tuple #[.agg #[.slice none 0 0], .int .i64 1]) (by simp [results, Tryz.results35, go_sem, hc2]) rfl (nat_bad (two_no2 _ H2.out) HB2.out)
theorem gcd_any (L M : List Int) (n c m d : Nat) (A B : Option Addr) (W : World) (hn : L.length = n) (hm : M.length = m) (hnc : n ≤ c) (hmd : m ≤ d) (hn63 : n ≤ maxLen) (hm63 : m ≤ maxLen) (hA : IntsIn W A L) (hB : IntsIn W B M) (hc63 : c ≤ maxLen) (hd63 : d ≤ maxLen) :
    Calls Tryz.prog 35 #[.agg #[.slice A n c], .agg #[.slice B m d]] W (NatPost (two L M (gcdI (val L) (val M), 0)) W) := by
  cases h1 : vldB L with
  | false => exact gcd_bad1 L M n c m d A B W hn hm hnc hmd hn63 hm63 hA hB h1
  | true =>
    cases h2 : vldB M with
    | false => exact gcd_bad2 L M n c m d A B W hn hm hnc hmd hn63 hm63 hA hB h1 h2
    | true => exact gcd_good L M n c m d A B W hn hm hnc hmd hn63 hm63 hc63 hd63 hA hB h1 h2
end Go.Proofs.YtkfkefgkepoaaaaGreatDoor
