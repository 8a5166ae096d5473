/- Contracts of the reference's Small and Valid of fractions. -/
import Derived.Test.YtpinnopdimjfjaaGreatDoorFc
namespace Go.Proofs.YtpinnopdimjfjaaGreatDoor
open Go.RowKit
set_option linter.unusedVariables false
set_option maxRecDepth 100000

theorem rof_num (N : Int) (W : World) (h0 : 0 ≤ N) (h1 : N ≤ 9223372036854775807) : Calls Tryz.prog 38 #[.int .i64 N] W (ValPost N W) := by
  have hl : (digs N).length ≤ 5 := digs_len_le (n := N) (k := 5) (by rw [pw5]; omega)
  have hv : ofV N = (N, 0) := by unfold ofV; rw [if_neg (by omega)]
  exact (rof_any N W h1).mono fun e w' h => val_post h hv h0 (by omega)
theorem made_store {W w : World} {g : Nat} {x : Int} {A : Option Addr} {k c : Nat} (hg : w.heap[g]? = some (.cells #[.slice none 0 0] 24 (0, 0))) (hW : W.heap.size ≤ g) (hx : NumAt w (.slice A k c) x) (hb : Below W.heap.size W w) :
    MadeNum x W (.returned (.agg #[.slice A k c])) (w.setCell ⟨g, 0, none⟩ (.slice A k c)) := by
  obtain ⟨h0, A', c', e, hi, h1, h2, h3⟩ := hx
  exact ⟨A, c, k, rfl, ⟨h0, A', c', e, hi.store (x := .slice none 0 0) hg, h1, h2, h3⟩, hb.setCell (p := ⟨g, 0, none⟩) hW _⟩
set_option maxHeartbeats 2000000 in
theorem rsmall_num (N : Int) (W : World) (h0 : 0 ≤ N) (h1 : N ≤ 1000000000000000) : Calls Tryz.prog 73 #[.int .i64 N] W (MadeNum N W) := by
  have HK := Lib.hid (show KeptAt W.heap.size (W.alloc (.cells #[.slice none 0 0] 24)) from heap_alloc_new W _)
  have HBE := Lib.hid (show Below W.heap.size W (W.alloc (.cells #[.slice none 0 0] 24)) from one_new)
  have V0 := Lib.hid (LiveA.start (W.alloc (.cells #[.slice none 0 0] 24)))
  go_enter Tryz.func73, Tryz.ntmps73
  go_wp2_with fail
  refine (rof_num N _ h0 (by omega)).mono ?_
  rintro e w1 ⟨Aa, ca, ka, rfl, n1, b1⟩
  have U1 := Lib.hid ((V0.out.go b1).num n1)
  clear n1 b1
  have V1 := Lib.hid (U1.out.new (.slice Aa ka ca) 24)
  obtain ⟨q1, q2, q3, q4⟩ := kept_old HK.out (by simp) V1.out.2.2
  have HQ1 := Lib.hid q1
  clear q1
  have HB := Lib.hid (btwo HBE.out V1.out.2.2)
  go_wp2_with fail
  refine bodyPost_ret (v := .agg #[.slice Aa ka ca]) ?_ rfl ?_
  · simp [results, Tryz.results73, go_sem, q2]
  · exact made_store HQ1.out (Nat.le_refl _) (V1.out.at (.head _)) HB.out
set_option maxHeartbeats 2000000 in
theorem rSmall_num (N : Int) (W : World) (h0 : 0 ≤ N) (h1 : N ≤ 1000000000000000) : Calls Tryz.prog 44 #[.int .i64 N] W (MadeNum N W) := by
  have HK := Lib.hid (show KeptAt W.heap.size (W.alloc (.cells #[.slice none 0 0] 24)) from heap_alloc_new W _)
  have HBE := Lib.hid (show Below W.heap.size W (W.alloc (.cells #[.slice none 0 0] 24)) from one_new)
  have V0 := Lib.hid (LiveA.start (W.alloc (.cells #[.slice none 0 0] 24)))
  have e1 : max N 0 = N := by omega
  go_enter Tryz.func44, Tryz.ntmps44
  go_wp2_with fail
  refine (rsmall_num N _ h0 h1).mono ?_
  rintro e w1 ⟨Aa, ca, ka, rfl, n1, b1⟩
  have U1 := Lib.hid ((V0.out.go b1).num n1)
  clear n1 b1
  obtain ⟨q1, q2, q3, q4⟩ := kept_old HK.out (by simp) U1.out.2.2
  have HQ1 := Lib.hid q1
  clear q1
  have HB := Lib.hid (btwo HBE.out U1.out.2.2)
  go_wp2_with fail
  refine bodyPost_ret (v := .agg #[.slice Aa ka ca]) ?_ rfl ?_
  · simp [results, Tryz.results44, go_sem, q2]
  · exact made_store HQ1.out (Nat.le_refl _) (U1.out.at (.head _)) HB.out
theorem rvalid_num (n c : Nat) (x : Int) (A : Option Addr) (w : World) (h : NumAt w (.slice A n c) x) : Calls Tryz.prog 47 #[.agg #[.slice A n c]] w fun e w' => e = .returned (.bool true) ∧ Below w.heap.size w w' := by
  obtain ⟨a1, a2, a3, a4, a5, a6, a7, a8⟩ := num_in h
  have := rvalid_any (digs x) n c A w a1 a3 a5
  rwa [a6] at this
theorem same_numF (n c m d : Nat) (x y : Int) (A B : Option Addr) (w : World) (h : NumAt w (.slice A n c) x) (k : NumAt w (.slice B m d) y) (hxy : ¬ x = y) :
    Calls Tryz.prog 49 #[.agg #[.slice A n c], .agg #[.slice B m d]] w fun e w' => e = .returned (.bool false) ∧ Below w.heap.size w w' := by
  have := same_numB n c m d x y A B w h k
  rwa [decide_eq_false hxy] at this
set_option maxHeartbeats 2000000 in
theorem rfvalid_bad (s : Bool) (L M : List Int) (n c m d : Nat) (A B : Option Addr) (W : World) (hn : L.length = n) (hm : M.length = m) (hnc : n ≤ c) (hmd : m ≤ d) (hc63 : c ≤ maxLen) (hd63 : d ≤ maxLen) (hA : IntsIn W A L) (hB : IntsIn W B M) (hv : ¬ (vldB L = true ∧ vldB M = true)) :
    Calls Tryz.prog 31 #[.agg #[.bool s, .slice A n c, .slice B m d]] W fun e w' => e = .returned (.bool false) ∧ Below W.heap.size W w' := by
  have V0 := Lib.hid ((LiveA.start W).newF (.bool s) (.slice A n c) (.slice B m d) 30)
  have B0 : Below W.heap.size W (W.alloc (.cells #[.bool s, .slice A n c, .slice B m d] 30)) := (Below.refl _ _).alloc (Nat.le_refl _) _
  have HA := Lib.hid (hA.below B0)
  have HB := Lib.hid (hB.below B0)
  have HN := Lib.hid hn
  have HM := Lib.hid hm
  have hn63 : n ≤ maxLen := Nat.le_trans hnc hc63
  have hm63 : m ≤ maxLen := Nat.le_trans hmd hd63
  clear hA hB B0 hn hm
  by_cases h1 : vldB L = true
  · have h2 : vldB M = false := by
      by_cases c : vldB M = true
      · exact absurd ⟨h1, c⟩ hv
      · simpa using c
    have H1 := Lib.hid h1
    have H2 := Lib.hid h2
    clear h1 h2 hv
    go_enter Tryz.func31, Tryz.ntmps31
    go_wp2_with fail
    refine (rvalid_any L n c A _ HN.out hn63 HA.out).mono ?_
    rintro e w1 ⟨rfl, b1⟩
    rw [H1.out]
    have V1 := Lib.hid (V0.out.go b1)
    have HB1 := Lib.hid b1
    clear b1
    obtain ⟨x1_f2, y1_f2⟩ := V1.out.box (.head _)
    go_wp2_with fail
    refine (rvalid_any M m d B _ HM.out hm63 (HB.out.below HB1.out)).mono ?_
    rintro e w2 ⟨rfl, b2⟩
    rw [H2.out]
    have V2 := Lib.hid (V1.out.go b2)
    clear b2 x1_f2 y1_f2
    go_wp2_with fail
    go_ret
    exact ⟨rfl, V2.out.2.2⟩
  · have H1 := Lib.hid (show vldB L = false by simpa using h1)
    clear h1 hv
    go_enter Tryz.func31, Tryz.ntmps31
    go_wp2_with fail
    refine (rvalid_any L n c A _ HN.out hn63 HA.out).mono ?_
    rintro e w1 ⟨rfl, b1⟩
    rw [H1.out]
    have V1 := Lib.hid (V0.out.go b1)
    clear b1
    go_wp2_with fail
    go_ret
    exact ⟨rfl, V1.out.2.2⟩
set_option maxHeartbeats 4000000 in
theorem rfvalid_num (s : Bool) (n c m d : Nat) (x y : Int) (A B : Option Addr) (W : World) (hx : NumAt W (.slice A n c) x) (hy : NumAt W (.slice B m d) y) :
    Calls Tryz.prog 31 #[.agg #[.bool s, .slice A n c, .slice B m d]] W fun e w' => e = .returned (.bool (decide (0 < y ∧ gcdI x y = 1 ∧ (s = true → 0 < x)))) ∧ Below W.heap.size W w' := by
  have V0 := Lib.hid ((((LiveA.start W).num hy).num hx).newF (.bool s) (.slice A n c) (.slice B m d) 30)
  have PX := hx.1
  have PY := hy.1
  clear hx hy
  by_cases hy0 : y = 0
  · rw [decide_eq_false (show ¬ (0 < y ∧ gcdI x y = 1 ∧ (s = true → 0 < x)) by omega)]
    go_enter Tryz.func31, Tryz.ntmps31
    go_wp2_with fail
    refine (rvalid_num n c _ A _ (V0.out.at (.head _))).mono ?_
    rintro e w1 ⟨rfl, b1⟩
    have V1 := Lib.hid (V0.out.go b1)
    clear b1
    obtain ⟨x1_f2, y1_f2⟩ := V1.out.box (.head _)
    obtain ⟨x1_f1, y1_f1⟩ := V1.out.box (.tail _ (.head _))
    obtain ⟨x1_f0, y1_f0⟩ := V1.out.box (.tail _ (.tail _ (.head _)))
    go_wp2_with fail
    refine (rvalid_num m d _ B _ (V1.out.at (.tail _ (.head _)))).mono ?_
    rintro e w2 ⟨rfl, b2⟩
    clear x1_f2 y1_f2 x1_f1 y1_f1 x1_f0 y1_f0
    have V2 := Lib.hid (V1.out.go b2)
    clear b2
    obtain ⟨x2_f2, y2_f2⟩ := V2.out.box (.head _)
    obtain ⟨x2_f1, y2_f1⟩ := V2.out.box (.tail _ (.head _))
    obtain ⟨x2_f0, y2_f0⟩ := V2.out.box (.tail _ (.tail _ (.head _)))
    go_wp2_with fail
    refine (rzero_t m d _ B _ (V2.out.at (.tail _ (.head _))) hy0).mono ?_
    rintro e w3 ⟨rfl, b3⟩
    clear x2_f2 y2_f2 x2_f1 y2_f1 x2_f0 y2_f0
    have V3 := Lib.hid (V2.out.go b3)
    clear b3
    go_wp2_with fail
    go_ret
    exact ⟨rfl, V3.out.2.2⟩
  · have hy1 : 0 < y := by omega
    by_cases hxs : s = true ∧ x = 0
    · obtain ⟨rfl, hx0⟩ := hxs
      rw [decide_eq_false (show ¬ (0 < y ∧ gcdI x y = 1 ∧ (true = true → 0 < x)) from fun h => by have := h.2.2 rfl; omega)]
      go_enter Tryz.func31, Tryz.ntmps31
      go_wp2_with fail
      refine (rvalid_num n c _ A _ (V0.out.at (.head _))).mono ?_
      rintro e w1 ⟨rfl, b1⟩
      have V1 := Lib.hid (V0.out.go b1)
      clear b1
      obtain ⟨x1_f2, y1_f2⟩ := V1.out.box (.head _)
      obtain ⟨x1_f1, y1_f1⟩ := V1.out.box (.tail _ (.head _))
      obtain ⟨x1_f0, y1_f0⟩ := V1.out.box (.tail _ (.tail _ (.head _)))
      go_wp2_with fail
      refine (rvalid_num m d _ B _ (V1.out.at (.tail _ (.head _)))).mono ?_
      rintro e w2 ⟨rfl, b2⟩
      clear x1_f2 y1_f2 x1_f1 y1_f1 x1_f0 y1_f0
      have V2 := Lib.hid (V1.out.go b2)
      clear b2
      obtain ⟨x2_f2, y2_f2⟩ := V2.out.box (.head _)
      obtain ⟨x2_f1, y2_f1⟩ := V2.out.box (.tail _ (.head _))
      obtain ⟨x2_f0, y2_f0⟩ := V2.out.box (.tail _ (.tail _ (.head _)))
      go_wp2_with fail
      refine (rzero_f m d _ B _ (V2.out.at (.tail _ (.head _))) hy1).mono ?_
      rintro e w3 ⟨rfl, b3⟩
      clear x2_f2 y2_f2 x2_f1 y2_f1 x2_f0 y2_f0
      have V3 := Lib.hid (V2.out.go b3)
      clear b3
      obtain ⟨x3_f0, y3_f0⟩ := V3.out.box (.tail _ (.tail _ (.head _)))
      obtain ⟨x3_f1, y3_f1⟩ := V3.out.box (.tail _ (.head _))
      obtain ⟨x3_f2, y3_f2⟩ := V3.out.box (.head _)
      go_wp2_with fail
      refine (rzero_t n c _ A _ (V3.out.at (.head _)) hx0).mono ?_
      rintro e w4 ⟨rfl, b4⟩
      clear x3_f0 y3_f0 x3_f1 y3_f1 x3_f2 y3_f2
      have V4 := Lib.hid (V3.out.go b4)
      clear b4
      obtain ⟨x4_f0, y4_f0⟩ := V4.out.box (.tail _ (.tail _ (.head _)))
      go_wp2_with fail
      go_ret
      exact ⟨rfl, V4.out.2.2⟩
    · by_cases hg : gcdI x y = 1
      · rw [decide_eq_true (show 0 < y ∧ gcdI x y = 1 ∧ (s = true → 0 < x) from ⟨hy1, hg, fun h => by
          by_cases c : x = 0
          · exact absurd ⟨h, c⟩ hxs
          · omega⟩)]
        have HG := Lib.hid hg
        clear hg
        by_cases hx0 : x = 0
        · have hs : s = false := by
            cases s with
            | false => rfl
            | true => exact absurd ⟨rfl, hx0⟩ hxs
          subst hs
          clear hxs
          go_enter Tryz.func31, Tryz.ntmps31
          go_wp2_with fail
          refine (rvalid_num n c _ A _ (V0.out.at (.head _))).mono ?_
          rintro e w1 ⟨rfl, b1⟩
          have V1 := Lib.hid (V0.out.go b1)
          clear b1
          obtain ⟨x1_f2, y1_f2⟩ := V1.out.box (.head _)
          obtain ⟨x1_f1, y1_f1⟩ := V1.out.box (.tail _ (.head _))
          obtain ⟨x1_f0, y1_f0⟩ := V1.out.box (.tail _ (.tail _ (.head _)))
          go_wp2_with fail
          refine (rvalid_num m d _ B _ (V1.out.at (.tail _ (.head _)))).mono ?_
          rintro e w2 ⟨rfl, b2⟩
          clear x1_f2 y1_f2 x1_f1 y1_f1 x1_f0 y1_f0
          have V2 := Lib.hid (V1.out.go b2)
          clear b2
          obtain ⟨x2_f2, y2_f2⟩ := V2.out.box (.head _)
          obtain ⟨x2_f1, y2_f1⟩ := V2.out.box (.tail _ (.head _))
          obtain ⟨x2_f0, y2_f0⟩ := V2.out.box (.tail _ (.tail _ (.head _)))
          go_wp2_with fail
          refine (rzero_f m d _ B _ (V2.out.at (.tail _ (.head _))) hy1).mono ?_
          rintro e w3 ⟨rfl, b3⟩
          clear x2_f2 y2_f2 x2_f1 y2_f1 x2_f0 y2_f0
          have V3 := Lib.hid (V2.out.go b3)
          clear b3
          obtain ⟨x3_f0, y3_f0⟩ := V3.out.box (.tail _ (.tail _ (.head _)))
          obtain ⟨x3_f1, y3_f1⟩ := V3.out.box (.tail _ (.head _))
          obtain ⟨x3_f2, y3_f2⟩ := V3.out.box (.head _)
          go_wp2_with fail
          refine (rzero_t n c _ A _ (V3.out.at (.head _)) hx0).mono ?_
          rintro e w4 ⟨rfl, b4⟩
          clear x3_f0 y3_f0 x3_f1 y3_f1 x3_f2 y3_f2
          have V4 := Lib.hid (V3.out.go b4)
          clear b4
          obtain ⟨x4_f0, y4_f0⟩ := V4.out.box (.tail _ (.tail _ (.head _)))
          obtain ⟨x4_f1, y4_f1⟩ := V4.out.box (.tail _ (.head _))
          obtain ⟨x4_f2, y4_f2⟩ := V4.out.box (.head _)
          go_wp2_with fail
          refine (rgcd_num n c m d _ _ A B _ (V4.out.at (.head _)) (V4.out.at (.tail _ (.head _)))).mono ?_
          rintro e w5 ⟨Ag, cg, kg, rfl, n5, b5⟩
          clear x4_f0 y4_f0 x4_f1 y4_f1 x4_f2 y4_f2
          have U5 := Lib.hid ((V4.out.go b5).num n5)
          clear n5 b5
          have V5 := Lib.hid (U5.out.new (.slice Ag kg cg) 24)
          obtain ⟨wz, hwz⟩ : ∃ wz : World, wz = w5.alloc (.cells #[.slice Ag kg cg] 24) := ⟨_, rfl⟩
          have VZ := V5.out
          rw [← hwz] at VZ
          have HVZ := Lib.hid VZ
          have XG := Lib.hid (VZ.box (.head _))
          have NG := Lib.hid (VZ.at (.head _))
          go_upto_region 4 with fail
          rw [← hwz]
          clear hwz VZ
          obtain ⟨xg, yg⟩ := XG.out
          go_region_with (first | (go_at_call 44; (with_reducible refine (rSmall_num 1 _ (by omega) (by omega)).mono ?_); rintro e w8 ⟨Ao, co, ko, rfl, no8, b8⟩; have D8 : Below wz.heap.size wz w8 := btwo (by first | exact Below.refl _ _ | exact (Below.refl _ _).drew | exact bdr (Below.refl _ _) _ | exact bdr (Below.refl _ _).drew _) b8; obtain ⟨x8g, y8g⟩ := cell_old XG.out.1 XG.out.2 D8; have HD8 := Lib.hid D8; have NO8 := Lib.hid no8; clear D8 b8 no8) | (go_at_call 49; (with_reducible refine (same_num kg cg ko co _ _ Ag Ao _ (by first | exact NG.out.below HD8.out | exact NumAt.below (NG.out.below HD8.out) (Below.refl _ _).drew | exact NumAt.below (NG.out.below HD8.out) (bdr (Below.refl _ _) _)) (by first | exact NO8.out | exact NumAt.below (NO8.out) (Below.refl _ _).drew | exact NumAt.below (NO8.out) (bdr (Below.refl _ _) _)) HG.out).mono ?_); rintro e w9 ⟨rfl, b9⟩; have HD9 := Lib.hid (show Below wz.heap.size wz w9 from btwo (by first | exact HD8.out | exact btwo HD8.out (Below.refl _ _).drew | exact btwo HD8.out (bdr (Below.refl _ _) _)) b9); clear b9))
          all_goals (go_wp2_with fail)
          all_goals go_ret
          all_goals exact ⟨rfl, btwo HVZ.out.2.2 (by first | exact HD9.out | exact btwo HD9.out (Below.refl _ _).drew | exact btwo HD9.out (bdr (Below.refl _ _) _))⟩
        · have hx1 : 0 < x := by omega
          clear hxs
          go_enter Tryz.func31, Tryz.ntmps31
          go_wp2_with fail
          refine (rvalid_num n c _ A _ (V0.out.at (.head _))).mono ?_
          rintro e w1 ⟨rfl, b1⟩
          have V1 := Lib.hid (V0.out.go b1)
          clear b1
          obtain ⟨x1_f2, y1_f2⟩ := V1.out.box (.head _)
          obtain ⟨x1_f1, y1_f1⟩ := V1.out.box (.tail _ (.head _))
          obtain ⟨x1_f0, y1_f0⟩ := V1.out.box (.tail _ (.tail _ (.head _)))
          go_wp2_with fail
          refine (rvalid_num m d _ B _ (V1.out.at (.tail _ (.head _)))).mono ?_
          rintro e w2 ⟨rfl, b2⟩
          clear x1_f2 y1_f2 x1_f1 y1_f1 x1_f0 y1_f0
          have V2 := Lib.hid (V1.out.go b2)
          clear b2
          obtain ⟨x2_f2, y2_f2⟩ := V2.out.box (.head _)
          obtain ⟨x2_f1, y2_f1⟩ := V2.out.box (.tail _ (.head _))
          obtain ⟨x2_f0, y2_f0⟩ := V2.out.box (.tail _ (.tail _ (.head _)))
          go_wp2_with fail
          refine (rzero_f m d _ B _ (V2.out.at (.tail _ (.head _))) hy1).mono ?_
          rintro e w3 ⟨rfl, b3⟩
          clear x2_f2 y2_f2 x2_f1 y2_f1 x2_f0 y2_f0
          have V3 := Lib.hid (V2.out.go b3)
          clear b3
          obtain ⟨x3_f0, y3_f0⟩ := V3.out.box (.tail _ (.tail _ (.head _)))
          obtain ⟨x3_f1, y3_f1⟩ := V3.out.box (.tail _ (.head _))
          obtain ⟨x3_f2, y3_f2⟩ := V3.out.box (.head _)
          go_wp2_with fail
          refine (rzero_f n c _ A _ (V3.out.at (.head _)) hx1).mono ?_
          rintro e w4 ⟨rfl, b4⟩
          clear x3_f0 y3_f0 x3_f1 y3_f1 x3_f2 y3_f2
          have V4 := Lib.hid (V3.out.go b4)
          clear b4
          obtain ⟨x4_f0, y4_f0⟩ := V4.out.box (.tail _ (.tail _ (.head _)))
          obtain ⟨x4_f1, y4_f1⟩ := V4.out.box (.tail _ (.head _))
          obtain ⟨x4_f2, y4_f2⟩ := V4.out.box (.head _)
          go_wp2_with fail
          refine (rgcd_num n c m d _ _ A B _ (V4.out.at (.head _)) (V4.out.at (.tail _ (.head _)))).mono ?_
          rintro e w5 ⟨Ag, cg, kg, rfl, n5, b5⟩
          clear x4_f0 y4_f0 x4_f1 y4_f1 x4_f2 y4_f2
          have U5 := Lib.hid ((V4.out.go b5).num n5)
          clear n5 b5
          have V5 := Lib.hid (U5.out.new (.slice Ag kg cg) 24)
          obtain ⟨wz, hwz⟩ : ∃ wz : World, wz = w5.alloc (.cells #[.slice Ag kg cg] 24) := ⟨_, rfl⟩
          have VZ := V5.out
          rw [← hwz] at VZ
          have HVZ := Lib.hid VZ
          have XG := Lib.hid (VZ.box (.head _))
          have NG := Lib.hid (VZ.at (.head _))
          go_upto_region 4 with fail
          rw [← hwz]
          clear hwz VZ
          obtain ⟨xg, yg⟩ := XG.out
          go_region_with (first | (go_at_call 44; (with_reducible refine (rSmall_num 1 _ (by omega) (by omega)).mono ?_); rintro e w8 ⟨Ao, co, ko, rfl, no8, b8⟩; have D8 : Below wz.heap.size wz w8 := btwo (by first | exact Below.refl _ _ | exact (Below.refl _ _).drew | exact bdr (Below.refl _ _) _ | exact bdr (Below.refl _ _).drew _) b8; obtain ⟨x8g, y8g⟩ := cell_old XG.out.1 XG.out.2 D8; have HD8 := Lib.hid D8; have NO8 := Lib.hid no8; clear D8 b8 no8) | (go_at_call 49; (with_reducible refine (same_num kg cg ko co _ _ Ag Ao _ (by first | exact NG.out.below HD8.out | exact NumAt.below (NG.out.below HD8.out) (Below.refl _ _).drew | exact NumAt.below (NG.out.below HD8.out) (bdr (Below.refl _ _) _)) (by first | exact NO8.out | exact NumAt.below (NO8.out) (Below.refl _ _).drew | exact NumAt.below (NO8.out) (bdr (Below.refl _ _) _)) HG.out).mono ?_); rintro e w9 ⟨rfl, b9⟩; have HD9 := Lib.hid (show Below wz.heap.size wz w9 from btwo (by first | exact HD8.out | exact btwo HD8.out (Below.refl _ _).drew | exact btwo HD8.out (bdr (Below.refl _ _) _)) b9); clear b9))
          all_goals (go_wp2_with fail)
          all_goals go_ret
          all_goals exact ⟨rfl, btwo HVZ.out.2.2 (by first | exact HD9.out | exact btwo HD9.out (Below.refl _ _).drew | exact btwo HD9.out (bdr (Below.refl _ _) _))⟩
      · rw [decide_eq_false (show ¬ (0 < y ∧ gcdI x y = 1 ∧ (s = true → 0 < x)) from fun h => hg h.2.1)]
        by_cases hx0 : x = 0
        · have hs : s = false := by
            cases s with
            | false => rfl
            | true => exact absurd ⟨rfl, hx0⟩ hxs
          subst hs
          clear hxs
          go_enter Tryz.func31, Tryz.ntmps31
          go_wp2_with fail
          refine (rvalid_num n c _ A _ (V0.out.at (.head _))).mono ?_
          rintro e w1 ⟨rfl, b1⟩
          have V1 := Lib.hid (V0.out.go b1)
          clear b1
          obtain ⟨x1_f2, y1_f2⟩ := V1.out.box (.head _)
          obtain ⟨x1_f1, y1_f1⟩ := V1.out.box (.tail _ (.head _))
          obtain ⟨x1_f0, y1_f0⟩ := V1.out.box (.tail _ (.tail _ (.head _)))
          go_wp2_with fail
          refine (rvalid_num m d _ B _ (V1.out.at (.tail _ (.head _)))).mono ?_
          rintro e w2 ⟨rfl, b2⟩
          clear x1_f2 y1_f2 x1_f1 y1_f1 x1_f0 y1_f0
          have V2 := Lib.hid (V1.out.go b2)
          clear b2
          obtain ⟨x2_f2, y2_f2⟩ := V2.out.box (.head _)
          obtain ⟨x2_f1, y2_f1⟩ := V2.out.box (.tail _ (.head _))
          obtain ⟨x2_f0, y2_f0⟩ := V2.out.box (.tail _ (.tail _ (.head _)))
          go_wp2_with fail
          refine (rzero_f m d _ B _ (V2.out.at (.tail _ (.head _))) hy1).mono ?_
          rintro e w3 ⟨rfl, b3⟩
          clear x2_f2 y2_f2 x2_f1 y2_f1 x2_f0 y2_f0
          have V3 := Lib.hid (V2.out.go b3)
          clear b3
          obtain ⟨x3_f0, y3_f0⟩ := V3.out.box (.tail _ (.tail _ (.head _)))
          obtain ⟨x3_f1, y3_f1⟩ := V3.out.box (.tail _ (.head _))
          obtain ⟨x3_f2, y3_f2⟩ := V3.out.box (.head _)
          go_wp2_with fail
          refine (rzero_t n c _ A _ (V3.out.at (.head _)) hx0).mono ?_
          rintro e w4 ⟨rfl, b4⟩
          clear x3_f0 y3_f0 x3_f1 y3_f1 x3_f2 y3_f2
          have V4 := Lib.hid (V3.out.go b4)
          clear b4
          obtain ⟨x4_f0, y4_f0⟩ := V4.out.box (.tail _ (.tail _ (.head _)))
          obtain ⟨x4_f1, y4_f1⟩ := V4.out.box (.tail _ (.head _))
          obtain ⟨x4_f2, y4_f2⟩ := V4.out.box (.head _)
          go_wp2_with fail
          refine (rgcd_num n c m d _ _ A B _ (V4.out.at (.head _)) (V4.out.at (.tail _ (.head _)))).mono ?_
          rintro e w5 ⟨Ag, cg, kg, rfl, n5, b5⟩
          clear x4_f0 y4_f0 x4_f1 y4_f1 x4_f2 y4_f2
          have U5 := Lib.hid ((V4.out.go b5).num n5)
          clear n5 b5
          have V5 := Lib.hid (U5.out.new (.slice Ag kg cg) 24)
          obtain ⟨wz, hwz⟩ : ∃ wz : World, wz = w5.alloc (.cells #[.slice Ag kg cg] 24) := ⟨_, rfl⟩
          have VZ := V5.out
          rw [← hwz] at VZ
          have HVZ := Lib.hid VZ
          have XG := Lib.hid (VZ.box (.head _))
          have NG := Lib.hid (VZ.at (.head _))
          go_upto_region 4 with fail
          rw [← hwz]
          clear hwz VZ
          obtain ⟨xg, yg⟩ := XG.out
          go_region_with (first | (go_at_call 44; (with_reducible refine (rSmall_num 1 _ (by omega) (by omega)).mono ?_); rintro e w8 ⟨Ao, co, ko, rfl, no8, b8⟩; have D8 : Below wz.heap.size wz w8 := btwo (by first | exact Below.refl _ _ | exact (Below.refl _ _).drew | exact bdr (Below.refl _ _) _ | exact bdr (Below.refl _ _).drew _) b8; obtain ⟨x8g, y8g⟩ := cell_old XG.out.1 XG.out.2 D8; have HD8 := Lib.hid D8; have NO8 := Lib.hid no8; clear D8 b8 no8) | (go_at_call 49; (with_reducible refine (same_numF kg cg ko co _ _ Ag Ao _ (by first | exact NG.out.below HD8.out | exact NumAt.below (NG.out.below HD8.out) (Below.refl _ _).drew | exact NumAt.below (NG.out.below HD8.out) (bdr (Below.refl _ _) _)) (by first | exact NO8.out | exact NumAt.below (NO8.out) (Below.refl _ _).drew | exact NumAt.below (NO8.out) (bdr (Below.refl _ _) _)) hg).mono ?_); rintro e w9 ⟨rfl, b9⟩; have HD9 := Lib.hid (show Below wz.heap.size wz w9 from btwo (by first | exact HD8.out | exact btwo HD8.out (Below.refl _ _).drew | exact btwo HD8.out (bdr (Below.refl _ _) _)) b9); clear b9))
          all_goals (go_wp2_with fail)
          all_goals go_ret
          all_goals exact ⟨rfl, btwo HVZ.out.2.2 (by first | exact HD9.out | exact btwo HD9.out (Below.refl _ _).drew | exact btwo HD9.out (bdr (Below.refl _ _) _))⟩
        · have hx1 : 0 < x := by omega
          clear hxs
          go_enter Tryz.func31, Tryz.ntmps31
          go_wp2_with fail
          refine (rvalid_num n c _ A _ (V0.out.at (.head _))).mono ?_
          rintro e w1 ⟨rfl, b1⟩
          have V1 := Lib.hid (V0.out.go b1)
          clear b1
          obtain ⟨x1_f2, y1_f2⟩ := V1.out.box (.head _)
          obtain ⟨x1_f1, y1_f1⟩ := V1.out.box (.tail _ (.head _))
          obtain ⟨x1_f0, y1_f0⟩ := V1.out.box (.tail _ (.tail _ (.head _)))
          go_wp2_with fail
          refine (rvalid_num m d _ B _ (V1.out.at (.tail _ (.head _)))).mono ?_
          rintro e w2 ⟨rfl, b2⟩
          clear x1_f2 y1_f2 x1_f1 y1_f1 x1_f0 y1_f0
          have V2 := Lib.hid (V1.out.go b2)
          clear b2
          obtain ⟨x2_f2, y2_f2⟩ := V2.out.box (.head _)
          obtain ⟨x2_f1, y2_f1⟩ := V2.out.box (.tail _ (.head _))
          obtain ⟨x2_f0, y2_f0⟩ := V2.out.box (.tail _ (.tail _ (.head _)))
          go_wp2_with fail
          refine (rzero_f m d _ B _ (V2.out.at (.tail _ (.head _))) hy1).mono ?_
          rintro e w3 ⟨rfl, b3⟩
          clear x2_f2 y2_f2 x2_f1 y2_f1 x2_f0 y2_f0
          have V3 := Lib.hid (V2.out.go b3)
          clear b3
          obtain ⟨x3_f0, y3_f0⟩ := V3.out.box (.tail _ (.tail _ (.head _)))
          obtain ⟨x3_f1, y3_f1⟩ := V3.out.box (.tail _ (.head _))
          obtain ⟨x3_f2, y3_f2⟩ := V3.out.box (.head _)
          go_wp2_with fail
          refine (rzero_f n c _ A _ (V3.out.at (.head _)) hx1).mono ?_
          rintro e w4 ⟨rfl, b4⟩
          clear x3_f0 y3_f0 x3_f1 y3_f1 x3_f2 y3_f2
          have V4 := Lib.hid (V3.out.go b4)
          clear b4
          obtain ⟨x4_f0, y4_f0⟩ := V4.out.box (.tail _ (.tail _ (.head _)))
          obtain ⟨x4_f1, y4_f1⟩ := V4.out.box (.tail _ (.head _))
          obtain ⟨x4_f2, y4_f2⟩ := V4.out.box (.head _)
          go_wp2_with fail
          refine (rgcd_num n c m d _ _ A B _ (V4.out.at (.head _)) (V4.out.at (.tail _ (.head _)))).mono ?_
          rintro e w5 ⟨Ag, cg, kg, rfl, n5, b5⟩
          clear x4_f0 y4_f0 x4_f1 y4_f1 x4_f2 y4_f2
          have U5 := Lib.hid ((V4.out.go b5).num n5)
          clear n5 b5
          have V5 := Lib.hid (U5.out.new (.slice Ag kg cg) 24)
          obtain ⟨wz, hwz⟩ : ∃ wz : World, wz = w5.alloc (.cells #[.slice Ag kg cg] 24) := ⟨_, rfl⟩
          have VZ := V5.out
          rw [← hwz] at VZ
          have HVZ := Lib.hid VZ
          have XG := Lib.hid (VZ.box (.head _))
          have NG := Lib.hid (VZ.at (.head _))
          go_upto_region 4 with fail
          rw [← hwz]
          clear hwz VZ
          obtain ⟨xg, yg⟩ := XG.out
          go_region_with (first | (go_at_call 44; (with_reducible refine (rSmall_num 1 _ (by omega) (by omega)).mono ?_); rintro e w8 ⟨Ao, co, ko, rfl, no8, b8⟩; have D8 : Below wz.heap.size wz w8 := btwo (by first | exact Below.refl _ _ | exact (Below.refl _ _).drew | exact bdr (Below.refl _ _) _ | exact bdr (Below.refl _ _).drew _) b8; obtain ⟨x8g, y8g⟩ := cell_old XG.out.1 XG.out.2 D8; have HD8 := Lib.hid D8; have NO8 := Lib.hid no8; clear D8 b8 no8) | (go_at_call 49; (with_reducible refine (same_numF kg cg ko co _ _ Ag Ao _ (by first | exact NG.out.below HD8.out | exact NumAt.below (NG.out.below HD8.out) (Below.refl _ _).drew | exact NumAt.below (NG.out.below HD8.out) (bdr (Below.refl _ _) _)) (by first | exact NO8.out | exact NumAt.below (NO8.out) (Below.refl _ _).drew | exact NumAt.below (NO8.out) (bdr (Below.refl _ _) _)) hg).mono ?_); rintro e w9 ⟨rfl, b9⟩; have HD9 := Lib.hid (show Below wz.heap.size wz w9 from btwo (by first | exact HD8.out | exact btwo HD8.out (Below.refl _ _).drew | exact btwo HD8.out (bdr (Below.refl _ _) _)) b9); clear b9))
          all_goals (go_wp2_with fail)
          all_goals go_ret
          all_goals exact ⟨rfl, btwo HVZ.out.2.2 (by first | exact HD9.out | exact btwo HD9.out (Below.refl _ _).drew | exact btwo HD9.out (bdr (Below.refl _ _) _))⟩
theorem rfvalid_any (s : Bool) (L M : List Int) (n c m d : Nat) (A B : Option Addr) (W : World) (hn : L.length = n) (hm : M.length = m) (hnc : n ≤ c) (hmd : m ≤ d) (hc63 : c ≤ maxLen) (hd63 : d ≤ maxLen) (hA : IntsIn W A L) (hB : IntsIn W B M) :
    Calls Tryz.prog 31 #[.agg #[.bool s, .slice A n c, .slice B m d]] W fun e w' => e = .returned (.bool (vldF s L M)) ∧ Below W.heap.size W w' := by
  by_cases hv : vldB L = true ∧ vldB M = true
  · have := rfvalid_num s n c m d (val L) (val M) A B W (num_mk hn hnc hc63 hA hv.1) (num_mk hm hmd hd63 hB hv.2)
    rwa [show decide (0 < val M ∧ gcdI (val L) (val M) = 1 ∧ (s = true → 0 < val L)) = vldF s L M from decide_eq_decide.2 ⟨fun h => ⟨hv, h⟩, fun h => h.2⟩] at this
  · have := rfvalid_bad s L M n c m d A B W hn hm hnc hmd hc63 hd63 hA hB hv
    rwa [show false = vldF s L M from (decide_eq_false (fun h => hv h.1)).symm] at this
end Go.Proofs.YtpinnopdimjfjaaGreatDoor
