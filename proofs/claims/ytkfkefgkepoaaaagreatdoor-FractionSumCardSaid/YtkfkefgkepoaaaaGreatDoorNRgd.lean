/- Contract of the reference's Gcd. -/
import Derived.Test.YtkfkefgkepoaaaaGreatDoorNRgc
namespace Go.Proofs.YtkfkefgkepoaaaaGreatDoor
open Go.RowKit
set_option linter.unusedVariables false
set_option maxRecDepth 100000

def RGcdSt (G : Int) (W : World) (a b : Value) (k : Nat) (vx vy vt : Value) (w : World) : Prop :=
  ∃ (x y : Int) (t : Nat), NumAt w vx x ∧ NumAt w vy y ∧ 0 < x ∧ vt = .int .i64 (t : Int) ∧ twoI t * gcdI x y = G ∧ (x + y).toNat = k ∧ Below (box3 W a b).heap.size (box3 W a b) w
def PowSt (G : Int) (W : World) (a b : Value) (t : Nat) (x : Int) (vo vi : Value) (w : World) : Prop :=
  ∃ j : Nat, j ≤ t ∧ vi = .int .i64 (j : Int) ∧ NumAt w vo (twoI j * x) ∧ Below (box3 W a b).heap.size (box3 W a b) w
theorem gcdI_le {x y : Int} (hx : 0 < x) : gcdI x y ≤ x := by
  unfold gcdI; have := Nat.gcd_le_left y.toNat (show 0 < x.toNat by omega); omega
theorem gcdI_zero_left {y : Int} (h : 0 ≤ y) : gcdI 0 y = y := by rw [gcdI_comm, gcdI_zero h]
theorem twoI_mono {a b : Nat} (h : a ≤ b) : twoI a ≤ twoI b := by
  obtain ⟨d, rfl⟩ : ∃ d, b = a + d := ⟨b - a, by omega⟩
  rw [twoI_add]
  have := Int.mul_le_mul_of_nonneg_left (show 1 ≤ twoI d by have := twoI_pos d; omega) (Int.le_of_lt (twoI_pos a))
  omega
theorem step_ee {x y G : Int} {t : Nat} (hx : 0 < x) (hy : 0 ≤ y) (ex : x % 2 = 0) (ey : y % 2 = 0) (h : twoI t * gcdI x y = G) : twoI (t + 1) * gcdI (x / 2) (y / 2) = G := by
  rw [gcd_ee (by omega) hy ex ey] at h
  rw [twoI_succ]
  generalize gcdI (x / 2) (y / 2) = g at *
  grind
theorem num_slice {w : World} {v : Value} {x : Int} (h : NumAt w v x) : ∃ A c n, v = .slice A n c ∧ n = (digs x).length ∧ n ≤ c ∧ c ≤ maxLen ∧ n ≤ 200 ∧ 0 ≤ x := by
  obtain ⟨h0, A, c, rfl, hi, hc, hm, hl⟩ := h
  exact ⟨A, c, _, rfl, rfl, hc, hm, hl, h0⟩
/-- A copy by append to an empty list. -/
theorem append_copy (w : World) (L : List Int) (A : Option Addr) (n c : Nat) (hn : L.length = n) (hn2 : n ≤ 100000) (hA : IntsIn w A L) :
    ∃ A' c' w1, (Builtin.append_ #[28, 28] 28 #[.slice (some ⟨w.heap.size, 0, none⟩) 0 0, .slice A n c]).run Tryz.prog (w.alloc (.cells #[] 3)) = .ok (.slice A' n c') w1 ∧
      IntsIn w1 A' L ∧ n ≤ c' ∧ c' ≤ maxLen ∧ Below w.heap.size w w1 := by
  obtain ⟨A', c', w1, h1, h2, h3, h4, h5, _⟩ := append_lit 28 w [] L A n 0 c rfl hn (by omega) hn2 hA
  rw [Nat.zero_add] at h1 h3
  exact ⟨A', c', w1, h1, h2, h3, h4, h5⟩
theorem pow_len {j t : Nat} {x G : Int} (hx : 0 < x) (hj : j + 1 ≤ t) (h : twoI t * x = G) (hG : G < pw 200) : (digs (twoI j * x + twoI j * x)).length ≤ 200 := by
  refine digs_len_le ?_
  have h1 := Int.mul_le_mul_of_nonneg_right (twoI_mono hj) (Int.le_of_lt hx)
  rw [twoI_succ] at h1
  have : twoI j * x + twoI j * x = 2 * twoI j * x := by grind
  omega
set_option maxHeartbeats 4000000 in
theorem rgcd_good (L M : List Int) (n c m d : Nat) (A B : Option Addr) (W : World) (hn : L.length = n) (hm : M.length = m) (hnc : n ≤ c) (hmd : m ≤ d) (hn63 : n ≤ maxLen) (hm63 : m ≤ maxLen) (hc63 : c ≤ maxLen) (hd63 : d ≤ maxLen) (hA : IntsIn W A L) (hB : IntsIn W B M) (h1 : vldB L = true) (h2 : vldB M = true) :
    Calls Tryz.prog 42 #[.agg #[.slice A n c], .agg #[.slice B m d]] W (NatPost (two L M (gcdI (val L) (val M), 0)) W) := by
  rw [two_ok _ h1 h2]
  obtain ⟨l1, d1, e1, p1, q1⟩ := vldB_true h1
  obtain ⟨l2, d2, e2, p2, q2⟩ := vldB_true h2
  have HA := Lib.hid (hA.below (box3_below W (.slice A n c) (.slice B m d)))
  have HB := Lib.hid (hB.below (box3_below W (.slice A n c) (.slice B m d)))
  have HN := Lib.hid hn
  have HM := Lib.hid hm
  have H1 := Lib.hid h1
  have H2 := Lib.hid h2
  have HZ := Lib.hid (val_zero_iff e1 p1)
  have hs1 : (digs (val L)).length = n := by rw [← e1]; exact hn
  have hs2 : (digs (val M)).length = m := by rw [← e2]; exact hm
  have HX := Lib.hid (fun (w : World) (h : IntsIn w A L) => (⟨p1, A, c, by rw [hs1], by rw [← e1]; exact h, by omega, hc63, by omega⟩ : NumAt w (.slice A n c) (val L)))
  have HY := Lib.hid (fun (w : World) (h : IntsIn w B M) => (⟨p2, B, d, by rw [hs2], by rw [← e2]; exact h, by omega, hd63, by omega⟩ : NumAt w (.slice B m d) (val M)))
  have hm2 : m ≤ 200 := by omega
  have HQ := Lib.hid q1
  have HE2 := Lib.hid e2
  clear hA hB hn hm h1 h2 d1 d2 e1 e2 q1 q2 l1 l2 hs1 hs2
  obtain ⟨x0, hx0⟩ : ∃ x, x = val L := ⟨_, rfl⟩
  obtain ⟨y0, hy0⟩ : ∃ x, x = val M := ⟨_, rfl⟩
  rw [← hx0] at p1 HZ HX HQ ⊢
  rw [← hy0] at p2 HY HE2 ⊢
  clear hx0 hy0
  go_enter Tryz.func42, Tryz.ntmps42
  go_wp2_with fail
  refine (rvalid_any L n c A _ HN.out hn63 HA.out).mono ?_
  rintro e w1 ⟨rfl, hb1⟩
  rw [H1.out]
  have HB1 := Lib.hid hb1
  obtain ⟨hc0, hc1, hc2, hf2, hs2, _, _⟩ := three hb1
  clear hb1
  go_wp2_with fail
  refine (rvalid_any M m d B _ HM.out hm63 (HB.out.below HB1.out)).mono ?_
  rintro e w2 ⟨rfl, hb2⟩
  rw [H2.out]
  have HB2 := Lib.hid (box_go HB1.out hb2)
  clear hc0 hc1 hc2 hf2 hs2 hb2
  obtain ⟨hc0, hc1, hc2, hf2, hs2, _, _⟩ := three HB2.out
  go_wp2_with fail
  go_quiet (fail)
  by_cases h0 : n = 0
  · subst h0
    obtain rfl : x0 = 0 := HZ.out.2 HN.out
    have hB3 := bdr HB2.out nq
    have hm100 : m ≤ 100000 := by omega
    obtain ⟨A3, c3, w3, hrun, hi3, hc3, hm3, hb3⟩ := append_copy (w2.drewN nq) M B m d HM.out hm100 (HB.out.below hB3)
    rw [HE2.out] at hi3
    have R := Lib.hid (gcd_post (G := y0) (W := W) ⟨A3, c3, rfl, hi3, hc3, hm3, hb3⟩ (by rw [← HE2.out]; exact HM.out.symm) hB3)
    have HB3 := Lib.hid (box_go hB3 hb3)
    have HG := Lib.hid (gcdI_zero_left p2)
    clear hi3 hc3 hm3 hb3 hB3
    clear hc0 hc1 hc2 hf2 hs2
    obtain ⟨hc0, hc1, hc2, hf2, hs2, _, _⟩ := three HB3.out
    go_wp2_with (at_builtin; refine wpList_append_run rfl _ _ 28 rfl _ _ rfl rfl hrun ?_)
    exact bodyPost_ret (v := .tuple #[.agg #[.slice A3 m c3], .int .i64 0]) (by simp [results, Tryz.results42, go_sem, hc2]) rfl (by rw [HG.out]; exact R.out)
  · have hx1 : 0 < x0 := by
      have : x0 ≠ 0 := fun e => h0 (by rw [← HN.out]; exact HZ.out.1 e)
      omega
    have hn0 : ((n : Int) == 0) = false := by simp; omega
    have HGG := Lib.hid (gcdI_le (y := y0) hx1)
    have HGP := Lib.hid (gcdI_pos (y := y0) hx1)
    have HS := Lib.hid (show RGcdSt (gcdI x0 y0) W (.slice A n c) (.slice B m d) (x0 + y0).toNat (.slice A n c) (.slice B m d) (.int .i64 0) (w2.drewN nq) from
      ⟨x0, y0, 0, HX.out _ (HA.out.below (bdr HB2.out _)), HY.out _ (HB.out.below (bdr HB2.out _)), hx1, rfl, by simp [twoI], rfl, bdr HB2.out _⟩)
    clear hc0 hc1 hc2 hf2 hs2
    go_wp2_with fail
    go_loopg [6, 7, 8] ((x0 + y0).toNat) (fun k vx vy vt wr => RGcdSt (gcdI x0 y0) W (.slice A n c) (.slice B m d) k vx vy vt wr)
    case atStart => exact HS.out
    case round =>
      obtain ⟨x, y, t, hnx, hny, hx, rfl, hG, hk, hb⟩ := hrel
      obtain ⟨A1, c1, k1, rfl, hk1, hl1, hm1, hz1, hxx⟩ := num_slice hnx
      obtain ⟨A2, c2, k2, rfl, hk2, hl2, hm2', hz2, hyy⟩ := num_slice hny
      have HN1 := Lib.hid hnx
      have HN2 := Lib.hid hny
      have HG := Lib.hid hG
      have HK := Lib.hid hk
      have HBW := Lib.hid hb
      have ht := twos_small (gcdI_pos (y := y) hx) hG (by have := HGG.out; have := HQ.out; omega)
      have HK1 := Lib.hid hk1
      have HK2 := Lib.hid hk2
      clear hnx hny hG hk hb hk1 hk2
      by_cases hy : 0 < y
      · have hk20 : 0 < k2 := by rw [HK2.out, digs_pos hy]; simp
        have hk21 : (0 : Int) < (k2 : Int) := by omega
        by_cases ex : x % 2 = 0
        · have EX := Lib.hid (show decide (x % 2 = 0) = true from decide_eq_true ex)
          by_cases ey : y % 2 = 0
          · have EY := Lib.hid (show decide (y % 2 = 0) = true from decide_eq_true ey)
            have HST := Lib.hid (step_ee hx hyy ex ey HG.out)
            have hx2 : 0 < x / 2 := by omega
            have hd : (x / 2 + y / 2).toNat < gk := by rw [← HK.out]; omega
            clear ex ey
            go_wp2_with (first | (go_at_call 71; ((with_reducible refine (reven_any (.slice A1 k1 c1) x _ HN1.out).mono ?_); rintro e w' ⟨rfl, rfl⟩; rw [EX.out])) | (go_at_call 71; ((with_reducible refine (reven_any (.slice A2 k2 c2) y _ HN2.out).mono ?_); rintro e w' ⟨rfl, rfl⟩; rw [EY.out])))
            refine (rhalf_num k1 c1 x A1 _ HN1.out).mono ?_
            rintro e w3 ⟨A3, c3, rfl, hn3, hb3⟩
            obtain ⟨k3, hk3⟩ : ∃ k, k = (digs (x / 2)).length := ⟨_, rfl⟩
            rw [← hk3] at hn3 ⊢
            have HN3 := Lib.hid hn3
            have HB3 := Lib.hid hb3
            clear hk3 hn3 hb3
            go_wp2_with fail
            refine (rhalf_num k2 c2 y A2 _ (HN2.out.below HB3.out)).mono ?_
            rintro e w4 ⟨A4, c4, rfl, hn4, hb4⟩
            obtain ⟨k4, hk4⟩ : ∃ k, k = (digs (y / 2)).length := ⟨_, rfl⟩
            rw [← hk4] at hn4 ⊢
            have F := Lib.hid (show RGcdSt (gcdI x0 y0) W (.slice A n c) (.slice B m d) (x / 2 + y / 2).toNat (.slice A3 k3 c3) (.slice A4 k4 c4) (.int .i64 ((t : Int) + 1)) w4 from
              ⟨x / 2, y / 2, t + 1, HN3.out.below hb4, hn4, hx2, by go_num, HST.out, rfl, box_go (box_go HBW.out HB3.out) hb4⟩)
            clear hk4 hn4 hb4
            go_wp2_with fail
            go_roundg (x / 2 + y / 2).toNat
            case measure => exact hd
            case rel => exact F.out
          · have EY := Lib.hid (show decide (y % 2 = 0) = false from decide_eq_false ey)
            have HST := Lib.hid (show twoI t * gcdI (x / 2) y = gcdI x0 y0 by rw [← gcd_eo (by omega) hyy ex (by omega)]; exact HG.out)
            have hd : (x / 2 + y).toNat < gk := by rw [← HK.out]; omega
            have hx2 : 0 < x / 2 := by omega
            clear ex ey
            go_wp2_with (first | (go_at_call 71; ((with_reducible refine (reven_any (.slice A1 k1 c1) x _ HN1.out).mono ?_); rintro e w' ⟨rfl, rfl⟩; rw [EX.out])) | (go_at_call 71; ((with_reducible refine (reven_any (.slice A2 k2 c2) y _ HN2.out).mono ?_); rintro e w' ⟨rfl, rfl⟩; rw [EY.out])))
            refine (rhalf_num k1 c1 x A1 _ HN1.out).mono ?_
            rintro e w3 ⟨A3, c3, rfl, hn3, hb3⟩
            obtain ⟨k3, hk3⟩ : ∃ k, k = (digs (x / 2)).length := ⟨_, rfl⟩
            rw [← hk3] at hn3 ⊢
            have F := Lib.hid (show RGcdSt (gcdI x0 y0) W (.slice A n c) (.slice B m d) (x / 2 + y).toNat (.slice A3 k3 c3) (.slice A2 k2 c2) (.int .i64 (t : Int)) w3 from
              ⟨x / 2, y, t, hn3, HN2.out.below hb3, hx2, rfl, HST.out, rfl, box_go HBW.out hb3⟩)
            clear hk3 hn3 hb3
            go_wp2_with fail
            go_roundg (x / 2 + y).toNat
            case measure => exact hd
            case rel => exact F.out
        · have EX := Lib.hid (show decide (x % 2 = 0) = false from decide_eq_false ex)
          by_cases ey : y % 2 = 0
          · have EY := Lib.hid (show decide (y % 2 = 0) = true from decide_eq_true ey)
            have HST := Lib.hid (show twoI t * gcdI x (y / 2) = gcdI x0 y0 by rw [← gcd_oe (by omega) hyy (by omega) ey]; exact HG.out)
            have hd : (x + y / 2).toNat < gk := by rw [← HK.out]; omega
            clear ex ey
            go_wp2_with (first | (go_at_call 71; ((with_reducible refine (reven_any (.slice A1 k1 c1) x _ HN1.out).mono ?_); rintro e w' ⟨rfl, rfl⟩; rw [EX.out])) | (go_at_call 71; ((with_reducible refine (reven_any (.slice A2 k2 c2) y _ HN2.out).mono ?_); rintro e w' ⟨rfl, rfl⟩; rw [EY.out])))
            refine (rhalf_num k2 c2 y A2 _ HN2.out).mono ?_
            rintro e w3 ⟨A3, c3, rfl, hn3, hb3⟩
            obtain ⟨k3, hk3⟩ : ∃ k, k = (digs (y / 2)).length := ⟨_, rfl⟩
            rw [← hk3] at hn3 ⊢
            have F := Lib.hid (show RGcdSt (gcdI x0 y0) W (.slice A n c) (.slice B m d) (x + y / 2).toNat (.slice A1 k1 c1) (.slice A3 k3 c3) (.int .i64 (t : Int)) w3 from
              ⟨x, y / 2, t, HN1.out.below hb3, hn3, hx, rfl, HST.out, rfl, box_go HBW.out hb3⟩)
            clear hk3 hn3 hb3
            go_wp2_with fail
            go_roundg (x + y / 2).toNat
            case measure => exact hd
            case rel => exact F.out
          · have EY := Lib.hid (show decide (y % 2 = 0) = false from decide_eq_false ey)
            clear ex ey
            go_wp2_with (first | (go_at_call 71; ((with_reducible refine (reven_any (.slice A1 k1 c1) x _ HN1.out).mono ?_); rintro e w' ⟨rfl, rfl⟩; rw [EX.out])) | (go_at_call 71; ((with_reducible refine (reven_any (.slice A2 k2 c2) y _ HN2.out).mono ?_); rintro e w' ⟨rfl, rfl⟩; rw [EY.out])))
            refine (rcmp_num k1 c1 k2 c2 x y A1 A2 _ HN1.out HN2.out).mono ?_
            rintro e w3 ⟨rfl, q3, rfl⟩
            have HB3 := Lib.hid (show Below wr.heap.size wr (wr.drewN q3) from bdr (Below.refl _ _) q3)
            by_cases hlt : y < x
            · have hs : sgn (x - y) = 1 := sgn_gt (by omega)
              have HST := Lib.hid (show twoI t * gcdI y (x - y) = gcdI x0 y0 by rw [← gcd_gt hyy (by omega)]; exact HG.out)
              have hd : (y + (x - y)).toNat < gk := by rw [← HK.out]; omega
              rw [hs]
              clear hs
              go_wp2_with fail
              refine (rless_num k1 c1 k2 c2 x y A1 A2 _ (HN1.out.below HB3.out) (HN2.out.below HB3.out) (by omega)).mono ?_
              rintro e w4 ⟨A4, c4, rfl, hn4, hb4⟩
              obtain ⟨k4, hk4⟩ : ∃ k, k = (digs (x - y)).length := ⟨_, rfl⟩
              rw [← hk4] at hn4 ⊢
              have hbb := btwo HB3.out hb4
              have F := Lib.hid (show RGcdSt (gcdI x0 y0) W (.slice A n c) (.slice B m d) (y + (x - y)).toNat (.slice A2 k2 c2) (.slice A4 k4 c4) (.int .i64 (t : Int)) w4 from
                ⟨y, x - y, t, HN2.out.below hbb, hn4, hy, rfl, HST.out, rfl, box_go HBW.out hbb⟩)
              clear hk4 hn4 hb4 hbb
              go_wp2_with fail
              go_roundg (y + (x - y)).toNat
              case measure => exact hd
              case rel => exact F.out
            · obtain ⟨s, hs⟩ : ∃ s, s = sgn (x - y) := ⟨_, rfl⟩
              have hs0 : s ≤ 0 := by rw [hs]; exact sgn_le (by omega)
              have HST := Lib.hid (show twoI t * gcdI x (y - x) = gcdI x0 y0 by rw [← gcd_le (by omega) (by omega)]; exact HG.out)
              have hd : (x + (y - x)).toNat < gk := by rw [← HK.out]; omega
              rw [← hs]
              clear hs
              go_wp2_with fail
              refine (rless_num k2 c2 k1 c1 y x A2 A1 _ (HN2.out.below HB3.out) (HN1.out.below HB3.out) (by omega)).mono ?_
              rintro e w4 ⟨A4, c4, rfl, hn4, hb4⟩
              obtain ⟨k4, hk4⟩ : ∃ k, k = (digs (y - x)).length := ⟨_, rfl⟩
              rw [← hk4] at hn4 ⊢
              have hbb := btwo HB3.out hb4
              have F := Lib.hid (show RGcdSt (gcdI x0 y0) W (.slice A n c) (.slice B m d) (x + (y - x)).toNat (.slice A1 k1 c1) (.slice A4 k4 c4) (.int .i64 (t : Int)) w4 from
                ⟨x, y - x, t, HN1.out.below hbb, hn4, hx, rfl, HST.out, rfl, box_go HBW.out hbb⟩)
              clear hk4 hn4 hb4 hbb
              go_wp2_with fail
              go_roundg (x + (y - x)).toNat
              case measure => exact hd
              case rel => exact F.out
      · obtain rfl : y = 0 := by omega
        have hk20 : k2 = 0 := by rw [HK2.out, digs_zero]; rfl
        subst hk20
        have hGx : twoI t * x = gcdI x0 y0 := by have := HG.out; rwa [gcdI_zero hxx] at this
        have HGX := Lib.hid hGx
        clear hGx
        obtain ⟨hn1a, hn1b, hn1c, _⟩ := HN1.out.slice
        obtain ⟨A3, c3, w3, hrun, hi3, hc3, hm3, hb3⟩ := append_copy wr (digs x) A1 k1 c1 HK1.out.symm (by omega) hn1c
        have HST := Lib.hid (show PowSt (gcdI x0 y0) W (.slice A n c) (.slice B m d) t x (.slice A3 k1 c3) (.int .i64 0) w3 from
          ⟨0, Nat.zero_le _, rfl, by rw [show twoI 0 * x = x by simp [twoI]]; exact ⟨hxx, A3, c3, by rw [HK1.out], hi3, by rw [← HK1.out]; exact hc3, hm3, by rw [← HK1.out]; exact hz1⟩, box_go HBW.out hb3⟩)
        clear hi3 hc3 hm3 hb3 hn1a hn1b hn1c
        go_wp2_with (at_builtin; refine wpList_append_run rfl _ _ 28 rfl _ _ rfl rfl hrun ?_)
        clear hrun
        go_loopw [9, 10] (fun vo vi wr => PowSt (gcdI x0 y0) W (.slice A n c) (.slice B m d) t x vo vi wr) (fun _ vi _ => t - (intOf vi).toNat)
        case atStart => exact HST.out
        case round =>
          obtain ⟨j, hj, rfl, hnv, hb⟩ := hrel
          obtain ⟨A4, c4, k4, rfl, hk4, hl4, hm4, hz4, _⟩ := num_slice hnv
          have HN4 := Lib.hid hnv
          have HB4 := Lib.hid hb
          have HK4 := Lib.hid hk4
          clear hnv hb hk4
          by_cases hlt : j < t
          · have HPL := Lib.hid (pow_len hx hlt HGX.out (by have := HGG.out; have := HQ.out; omega))
            go_wp2_with fail
            refine (rsum_num k4 c4 k4 c4 _ _ A4 A4 _ HN4.out HN4.out HPL.out).mono ?_
            rintro e w5 ⟨A5, c5, rfl, hn5, hb5⟩
            rw [show twoI j * x + twoI j * x = twoI (j + 1) * x by rw [twoI_succ]; grind] at hn5 ⊢
            obtain ⟨k5, hk5⟩ : ∃ k, k = (digs (twoI (j + 1) * x)).length := ⟨_, rfl⟩
            rw [← hk5] at hn5 ⊢
            have F := Lib.hid (show PowSt (gcdI x0 y0) W (.slice A n c) (.slice B m d) t x (.slice A5 k5 c5) (.int .i64 ((j : Int) + 1)) w5 from
              ⟨j + 1, by omega, by go_num, hn5, box_go HB4.out hb5⟩)
            clear hk5 hn5 hb5
            go_wp2_with fail
            go_roundw
            case rel => exact F.out
            case measure => simp [intOf]; omega
          · obtain rfl : j = t := by omega
            obtain ⟨hc0, hc1, hc2, hf2, hs2, h6, h7⟩ := three HB4.out
            obtain ⟨n5, n6, n7, n8, n9, n10⟩ := HN4.out.slice
            rw [HGX.out] at n6 n7
            have R := Lib.hid (nat_store (r := (gcdI x0 y0, 0)) (W := W) n6 n7 (by rw [← n6]; exact n8) n9 h6 h7 (by omega))
            clear n5 n6 n7 n8 n9 n10 h6 h7
            go_wp2_with fail
            exact bodyPost_ret (v := .tuple #[.agg #[.slice A4 k4 c4], .int .i64 0]) (by simp [results, Tryz.results42, go_sem, hc2]) rfl R.out
set_option maxHeartbeats 1000000 in
theorem rgcd_bad1 (L M : List Int) (n c m d : Nat) (A B : Option Addr) (W : World) (hn : L.length = n) (hm : M.length = m) (hnc : n ≤ c) (hmd : m ≤ d) (hn63 : n ≤ maxLen) (hm63 : m ≤ maxLen) (hA : IntsIn W A L) (hB : IntsIn W B M) (h1 : vldB L = false) :
    Calls Tryz.prog 42 #[.agg #[.slice A n c], .agg #[.slice B m d]] W (NatPost (two L M (gcdI (val L) (val M), 0)) W) := by
  have HA := Lib.hid (hA.below (box3_below W (.slice A n c) (.slice B m d)))
  have HB := Lib.hid (hB.below (box3_below W (.slice A n c) (.slice B m d)))
  have HN := Lib.hid hn
  have HM := Lib.hid hm
  have H1 := Lib.hid h1
  clear hA hB hn hm h1
  go_enter Tryz.func42, Tryz.ntmps42
  go_wp2_with fail
  refine (rvalid_any L n c A _ HN.out hn63 HA.out).mono ?_
  rintro e w1 ⟨rfl, hb1⟩
  rw [H1.out]
  have HB1 := Lib.hid hb1
  obtain ⟨hc0, hc1, hc2, hf2, hs2, _, _⟩ := three hb1
  clear hb1
  go_wp2
  exact bodyPost_ret (v := .tuple #[.agg #[.slice none 0 0], .int .i64 1]) (by simp [results, Tryz.results42, go_sem, hc2]) rfl (nat_bad (two_no1 _ H1.out) HB1.out)
set_option maxHeartbeats 1000000 in
theorem rgcd_bad2 (L M : List Int) (n c m d : Nat) (A B : Option Addr) (W : World) (hn : L.length = n) (hm : M.length = m) (hnc : n ≤ c) (hmd : m ≤ d) (hn63 : n ≤ maxLen) (hm63 : m ≤ maxLen) (hA : IntsIn W A L) (hB : IntsIn W B M) (h1 : vldB L = true) (h2 : vldB M = false) :
    Calls Tryz.prog 42 #[.agg #[.slice A n c], .agg #[.slice B m d]] W (NatPost (two L M (gcdI (val L) (val M), 0)) W) := by
  have HA := Lib.hid (hA.below (box3_below W (.slice A n c) (.slice B m d)))
  have HB := Lib.hid (hB.below (box3_below W (.slice A n c) (.slice B m d)))
  have HN := Lib.hid hn
  have HM := Lib.hid hm
  have H1 := Lib.hid h1
  have H2 := Lib.hid h2
  clear hA hB hn hm h1 h2
  go_enter Tryz.func42, Tryz.ntmps42
  go_wp2_with fail
  refine (rvalid_any L n c A _ HN.out hn63 HA.out).mono ?_
  rintro e w1 ⟨rfl, hb1⟩
  rw [H1.out]
  have HB1 := Lib.hid hb1
  obtain ⟨hc0, hc1, hc2, hf2, hs2, _, _⟩ := three hb1
  clear hb1
  go_wp2_with fail
  refine (rvalid_any M m d B _ HM.out hm63 (HB.out.below HB1.out)).mono ?_
  rintro e w2 ⟨rfl, hb2⟩
  rw [H2.out]
  have HB2 := Lib.hid (box_go HB1.out hb2)
  clear hc0 hc1 hc2 hf2 hs2 hb2
  obtain ⟨hc0, hc1, hc2, hf2, hs2, _, _⟩ := three HB2.out
  go_wp2
  exact bodyPost_ret (v := .tuple #[.agg #[.slice none 0 0], .int .i64 1]) (by simp [results, Tryz.results42, go_sem, hc2]) rfl (nat_bad (two_no2 _ H2.out) HB2.out)
theorem rgcd_any (L M : List Int) (n c m d : Nat) (A B : Option Addr) (W : World) (hn : L.length = n) (hm : M.length = m) (hnc : n ≤ c) (hmd : m ≤ d) (hn63 : n ≤ maxLen) (hm63 : m ≤ maxLen) (hA : IntsIn W A L) (hB : IntsIn W B M) (hc63 : c ≤ maxLen) (hd63 : d ≤ maxLen) :
    Calls Tryz.prog 42 #[.agg #[.slice A n c], .agg #[.slice B m d]] W (NatPost (two L M (gcdI (val L) (val M), 0)) W) := by
  cases h1 : vldB L with
  | false => exact rgcd_bad1 L M n c m d A B W hn hm hnc hmd hn63 hm63 hA hB h1
  | true =>
    cases h2 : vldB M with
    | false => exact rgcd_bad2 L M n c m d A B W hn hm hnc hmd hn63 hm63 hA hB h1 h2
    | true => exact rgcd_good L M n c m d A B W hn hm hnc hmd hn63 hm63 hc63 hd63 hA hB h1 h2
end Go.Proofs.YtkfkefgkepoaaaaGreatDoor
