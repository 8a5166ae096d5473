/- What the statement about the order of fractions answers: true, whatever the input. -/
import Derived.Test.YtbhneddjjgegmaaGreatDoorHa
import Derived.Deep.RegionHeld3
import Derived.StillTailTactics
import Derived.Deep.QuietTactic
import Derived.BigQuiet
namespace Go.Proofs.YtbhneddjjgegmaaGreatDoor
open Go.RowKit
set_option linter.unusedVariables false
set_option maxRecDepth 100000

theorem dec3_no {s s2 : Bool} {x y x2 y2 : Int} (h : ¬ (s = s2 ∧ x = x2 ∧ y = y2)) : decide (s = s2 ∧ x = x2 ∧ y = y2) = false := decide_eq_false h
set_option maxHeartbeats 4000000 in
theorem same03_b (s s2 : Bool) (n c m d n2 c2 m2 d2 : Nat) (x y x2 y2 : Int) (A B A2 B2 : Option Addr) (W : World) (hx : NumAt W (.slice A n c) x) (hy : NumAt W (.slice B m d) y) (hx2 : NumAt W (.slice A2 n2 c2) x2) (hy2 : NumAt W (.slice B2 m2 d2) y2) :
    Calls Tryz.prog 13 #[.agg #[.bool s, .slice A n c, .slice B m d], .agg #[.bool s2, .slice A2 n2 c2, .slice B2 m2 d2]] W fun e w' => e = .returned (.bool (decide (s = s2 ∧ x = x2 ∧ y = y2))) ∧ Below W.heap.size W w' := by
  by_cases hs : s = s2
  · subst hs
    by_cases ex : x = x2
    · by_cases ey : y = y2
      · rw [decide_eq_true (⟨rfl, ex, ey⟩ : s = s ∧ x = x2 ∧ y = y2)]
        exact same03_t s n c m d n2 c2 m2 d2 x y x2 y2 A B A2 B2 W hx hy hx2 hy2 ex ey
      · rw [dec3_no (fun h : s = s ∧ x = x2 ∧ y = y2 => ey h.2.2)]
        have H1 := Lib.hid (show decide (x = x2) = true from decide_eq_true ex)
        have H2 := Lib.hid (show decide (y = y2) = false from decide_eq_false ey)
        clear ex ey
        cases s
        · have VW := ((((((LiveA.start W).num hy2).num hx2).num hy).num hx).newF (.bool false) (.slice A n c) (.slice B m d) 26).newF (.bool false) (.slice A2 n2 c2) (.slice B2 m2 d2) 26
          rw [show (W.alloc (.cells #[.bool false, .slice A n c, .slice B m d] 26)).heap.size = W.heap.size + 1 by simp] at VW
          have V0 := Lib.hid VW
          clear VW hx hy hx2 hy2
          go_enter Tryz.func13, Tryz.ntmps13
          obtain ⟨x0_f0, y0_f0⟩ := V0.out.box (.tail _ (.tail _ (.tail _ (.tail _ (.tail _ (.head _))))))
          obtain ⟨x0_f1, y0_f1⟩ := V0.out.box (.tail _ (.tail _ (.tail _ (.tail _ (.head _)))))
          obtain ⟨x0_g0, y0_g0⟩ := V0.out.box (.tail _ (.tail _ (.head _)))
          obtain ⟨x0_g1, y0_g1⟩ := V0.out.box (.tail _ (.head _))
          go_wp2_with fail
          refine (same_numB n c n2 c2 _ _ A A2 _ (V0.out.at (.head _)) (V0.out.at (.tail _ (.tail _ (.head _))))).mono ?_
          rintro e w1 ⟨rfl, b1⟩
          clear x0_f0 y0_f0 x0_f1 y0_f1 x0_g0 y0_g0 x0_g1 y0_g1
          have V1 := Lib.hid (V0.out.go b1)
          clear b1
          obtain ⟨x1_f2, y1_f2⟩ := V1.out.box (.tail _ (.tail _ (.tail _ (.head _))))
          obtain ⟨x1_g2, y1_g2⟩ := V1.out.box (.head _)
          rw [H1.out]
          go_wp2_with fail
          refine (same_numB m d m2 d2 _ _ B B2 _ (V1.out.at (.tail _ (.head _))) (V1.out.at (.tail _ (.tail _ (.tail _ (.head _)))))).mono ?_
          rintro e w2 ⟨rfl, b2⟩
          clear x1_f2 y1_f2 x1_g2 y1_g2
          have V2 := Lib.hid (V1.out.go b2)
          clear b2
          rw [H2.out]
          go_wp2_with fail
          go_ret
          exact ⟨rfl, V2.out.2.2⟩
        · have VW := ((((((LiveA.start W).num hy2).num hx2).num hy).num hx).newF (.bool true) (.slice A n c) (.slice B m d) 26).newF (.bool true) (.slice A2 n2 c2) (.slice B2 m2 d2) 26
          rw [show (W.alloc (.cells #[.bool true, .slice A n c, .slice B m d] 26)).heap.size = W.heap.size + 1 by simp] at VW
          have V0 := Lib.hid VW
          clear VW hx hy hx2 hy2
          go_enter Tryz.func13, Tryz.ntmps13
          obtain ⟨x0_f0, y0_f0⟩ := V0.out.box (.tail _ (.tail _ (.tail _ (.tail _ (.tail _ (.head _))))))
          obtain ⟨x0_f1, y0_f1⟩ := V0.out.box (.tail _ (.tail _ (.tail _ (.tail _ (.head _)))))
          obtain ⟨x0_g0, y0_g0⟩ := V0.out.box (.tail _ (.tail _ (.head _)))
          obtain ⟨x0_g1, y0_g1⟩ := V0.out.box (.tail _ (.head _))
          go_wp2_with fail
          refine (same_numB n c n2 c2 _ _ A A2 _ (V0.out.at (.head _)) (V0.out.at (.tail _ (.tail _ (.head _))))).mono ?_
          rintro e w1 ⟨rfl, b1⟩
          clear x0_f0 y0_f0 x0_f1 y0_f1 x0_g0 y0_g0 x0_g1 y0_g1
          have V1 := Lib.hid (V0.out.go b1)
          clear b1
          obtain ⟨x1_f2, y1_f2⟩ := V1.out.box (.tail _ (.tail _ (.tail _ (.head _))))
          obtain ⟨x1_g2, y1_g2⟩ := V1.out.box (.head _)
          rw [H1.out]
          go_wp2_with fail
          refine (same_numB m d m2 d2 _ _ B B2 _ (V1.out.at (.tail _ (.head _))) (V1.out.at (.tail _ (.tail _ (.tail _ (.head _)))))).mono ?_
          rintro e w2 ⟨rfl, b2⟩
          clear x1_f2 y1_f2 x1_g2 y1_g2
          have V2 := Lib.hid (V1.out.go b2)
          clear b2
          rw [H2.out]
          go_wp2_with fail
          go_ret
          exact ⟨rfl, V2.out.2.2⟩
    · rw [dec3_no (fun h : s = s ∧ x = x2 ∧ y = y2 => ex h.2.1)]
      have H1 := Lib.hid (show decide (x = x2) = false from decide_eq_false ex)
      clear ex
      cases s
      · have VW := ((((((LiveA.start W).num hy2).num hx2).num hy).num hx).newF (.bool false) (.slice A n c) (.slice B m d) 26).newF (.bool false) (.slice A2 n2 c2) (.slice B2 m2 d2) 26
        rw [show (W.alloc (.cells #[.bool false, .slice A n c, .slice B m d] 26)).heap.size = W.heap.size + 1 by simp] at VW
        have V0 := Lib.hid VW
        clear VW hx hy hx2 hy2
        go_enter Tryz.func13, Tryz.ntmps13
        obtain ⟨x0_f0, y0_f0⟩ := V0.out.box (.tail _ (.tail _ (.tail _ (.tail _ (.tail _ (.head _))))))
        obtain ⟨x0_f1, y0_f1⟩ := V0.out.box (.tail _ (.tail _ (.tail _ (.tail _ (.head _)))))
        obtain ⟨x0_g0, y0_g0⟩ := V0.out.box (.tail _ (.tail _ (.head _)))
        obtain ⟨x0_g1, y0_g1⟩ := V0.out.box (.tail _ (.head _))
        go_wp2_with fail
        refine (same_numB n c n2 c2 _ _ A A2 _ (V0.out.at (.head _)) (V0.out.at (.tail _ (.tail _ (.head _))))).mono ?_
        rintro e w1 ⟨rfl, b1⟩
        clear x0_f0 y0_f0 x0_f1 y0_f1 x0_g0 y0_g0 x0_g1 y0_g1
        have V1 := Lib.hid (V0.out.go b1)
        clear b1
        obtain ⟨x1_f2, y1_f2⟩ := V1.out.box (.tail _ (.tail _ (.tail _ (.head _))))
        obtain ⟨x1_g2, y1_g2⟩ := V1.out.box (.head _)
        rw [H1.out]
        clear x1_f2 y1_f2 x1_g2 y1_g2
        go_wp2_with fail
        go_ret
        exact ⟨rfl, V1.out.2.2⟩
      · have VW := ((((((LiveA.start W).num hy2).num hx2).num hy).num hx).newF (.bool true) (.slice A n c) (.slice B m d) 26).newF (.bool true) (.slice A2 n2 c2) (.slice B2 m2 d2) 26
        rw [show (W.alloc (.cells #[.bool true, .slice A n c, .slice B m d] 26)).heap.size = W.heap.size + 1 by simp] at VW
        have V0 := Lib.hid VW
        clear VW hx hy hx2 hy2
        go_enter Tryz.func13, Tryz.ntmps13
        obtain ⟨x0_f0, y0_f0⟩ := V0.out.box (.tail _ (.tail _ (.tail _ (.tail _ (.tail _ (.head _))))))
        obtain ⟨x0_f1, y0_f1⟩ := V0.out.box (.tail _ (.tail _ (.tail _ (.tail _ (.head _)))))
        obtain ⟨x0_g0, y0_g0⟩ := V0.out.box (.tail _ (.tail _ (.head _)))
        obtain ⟨x0_g1, y0_g1⟩ := V0.out.box (.tail _ (.head _))
        go_wp2_with fail
        refine (same_numB n c n2 c2 _ _ A A2 _ (V0.out.at (.head _)) (V0.out.at (.tail _ (.tail _ (.head _))))).mono ?_
        rintro e w1 ⟨rfl, b1⟩
        clear x0_f0 y0_f0 x0_f1 y0_f1 x0_g0 y0_g0 x0_g1 y0_g1
        have V1 := Lib.hid (V0.out.go b1)
        clear b1
        obtain ⟨x1_f2, y1_f2⟩ := V1.out.box (.tail _ (.tail _ (.tail _ (.head _))))
        obtain ⟨x1_g2, y1_g2⟩ := V1.out.box (.head _)
        rw [H1.out]
        clear x1_f2 y1_f2 x1_g2 y1_g2
        go_wp2_with fail
        go_ret
        exact ⟨rfl, V1.out.2.2⟩
  · rw [dec3_no (fun h : s = s2 ∧ x = x2 ∧ y = y2 => hs h.1)]
    cases s <;> cases s2 <;> simp at hs
    · have VW := ((((((LiveA.start W).num hy2).num hx2).num hy).num hx).newF (.bool false) (.slice A n c) (.slice B m d) 26).newF (.bool true) (.slice A2 n2 c2) (.slice B2 m2 d2) 26
      rw [show (W.alloc (.cells #[.bool false, .slice A n c, .slice B m d] 26)).heap.size = W.heap.size + 1 by simp] at VW
      have V0 := Lib.hid VW
      clear VW hx hy hx2 hy2
      go_enter Tryz.func13, Tryz.ntmps13
      obtain ⟨x0_f0, y0_f0⟩ := V0.out.box (.tail _ (.tail _ (.tail _ (.tail _ (.tail _ (.head _))))))
      obtain ⟨x0_f1, y0_f1⟩ := V0.out.box (.tail _ (.tail _ (.tail _ (.tail _ (.head _)))))
      obtain ⟨x0_g0, y0_g0⟩ := V0.out.box (.tail _ (.tail _ (.head _)))
      obtain ⟨x0_g1, y0_g1⟩ := V0.out.box (.tail _ (.head _))
      clear x0_f0 y0_f0 x0_f1 y0_f1 x0_g0 y0_g0 x0_g1 y0_g1
      go_wp2_with fail
      go_ret
      exact ⟨rfl, V0.out.2.2⟩
    · have VW := ((((((LiveA.start W).num hy2).num hx2).num hy).num hx).newF (.bool true) (.slice A n c) (.slice B m d) 26).newF (.bool false) (.slice A2 n2 c2) (.slice B2 m2 d2) 26
      rw [show (W.alloc (.cells #[.bool true, .slice A n c, .slice B m d] 26)).heap.size = W.heap.size + 1 by simp] at VW
      have V0 := Lib.hid VW
      clear VW hx hy hx2 hy2
      go_enter Tryz.func13, Tryz.ntmps13
      obtain ⟨x0_f0, y0_f0⟩ := V0.out.box (.tail _ (.tail _ (.tail _ (.tail _ (.tail _ (.head _))))))
      obtain ⟨x0_f1, y0_f1⟩ := V0.out.box (.tail _ (.tail _ (.tail _ (.tail _ (.head _)))))
      obtain ⟨x0_g0, y0_g0⟩ := V0.out.box (.tail _ (.tail _ (.head _)))
      obtain ⟨x0_g1, y0_g1⟩ := V0.out.box (.tail _ (.head _))
      clear x0_f0 y0_f0 x0_f1 y0_f1 x0_g0 y0_g0 x0_g1 y0_g1
      go_wp2_with fail
      go_ret
      exact ⟨rfl, V0.out.2.2⟩
theorem fracs_three (s : Bool) (A B : Option Addr) (n c m d : Nat) (s2 : Bool) (A2 B2 : Option Addr) (n2 c2 m2 d2 : Nat) (s3 : Bool) (A3 B3 : Option Addr) (n3 c3 m3 d3 : Nat) (w : World) :
    FracsAt (w.alloc (.cells #[.bool s, .slice A n c, .slice B m d, .bool s2, .slice A2 n2 c2, .slice B2 m2 d2, .bool s3, .slice A3 n3 c3, .slice B3 m3 d3] 26)) w.heap.size [(n, m), (n2, m2), (n3, m3)] := by
  have hr := heap_alloc_new w (.cells #[.bool s, .slice A n c, .slice B m d, .bool s2, .slice A2 n2 c2, .slice B2 m2 d2, .bool s3, .slice A3 n3 c3, .slice B3 m3 d3] 26)
  refine ⟨by simp, fun j hj => ?_⟩
  match j, hj with
  | 0, _ => exact ⟨s, A, c, B, d, by rw [cell_of_row _ _ 0 _ _ _ hr]; rfl, by rw [cell_of_row _ _ 1 _ _ _ hr]; rfl, by rw [cell_of_row _ _ 2 _ _ _ hr]; rfl⟩
  | 1, _ => exact ⟨s2, A2, c2, B2, d2, by rw [cell_of_row _ _ 3 _ _ _ hr]; rfl, by rw [cell_of_row _ _ 4 _ _ _ hr]; rfl, by rw [cell_of_row _ _ 5 _ _ _ hr]; rfl⟩
  | 2, _ => exact ⟨s3, A3, c3, B3, d3, by rw [cell_of_row _ _ 6 _ _ _ hr]; rfl, by rw [cell_of_row _ _ 7 _ _ _ hr]; rfl, by rw [cell_of_row _ _ 8 _ _ _ hr]; rfl⟩
  | j + 3, hj => exact absurd hj (by show ¬ j + 3 < 3; omega)
theorem held9_go {W w w' : World} {g h k : Nat} {a b c d e f x y z : Value} (H : Below W.heap.size W w ∧ w.cell? ⟨g, 0, none⟩ = some a ∧ w.cell? ⟨g, 1, none⟩ = some b ∧ w.cell? ⟨g, 2, none⟩ = some c ∧ w.cell? ⟨h, 0, none⟩ = some d ∧ w.cell? ⟨h, 1, none⟩ = some e ∧ w.cell? ⟨h, 2, none⟩ = some f ∧ w.cell? ⟨k, 0, none⟩ = some x ∧ w.cell? ⟨k, 1, none⟩ = some y ∧ w.cell? ⟨k, 2, none⟩ = some z) (hb : Below w.heap.size w w') :
    Below W.heap.size W w' ∧ w'.cell? ⟨g, 0, none⟩ = some a ∧ w'.cell? ⟨g, 1, none⟩ = some b ∧ w'.cell? ⟨g, 2, none⟩ = some c ∧ w'.cell? ⟨h, 0, none⟩ = some d ∧ w'.cell? ⟨h, 1, none⟩ = some e ∧ w'.cell? ⟨h, 2, none⟩ = some f ∧ w'.cell? ⟨k, 0, none⟩ = some x ∧ w'.cell? ⟨k, 1, none⟩ = some y ∧ w'.cell? ⟨k, 2, none⟩ = some z := by
  obtain ⟨k0, k1, k2, k3, k4, k5, k6, k7, k8, k9⟩ := H
  have key : ∀ {p : Addr} {v : Value}, w.cell? p = some v → w'.cell? p = some v := fun {p v} h => (hb.cell (p := p) (World.block_lt_of_cell? _ _ h)).trans h
  exact ⟨btwo k0 hb, key k1, key k2, key k3, key k4, key k5, key k6, key k7, key k8, key k9⟩
theorem held9_b {W w : World} {g h k : Nat} {a b c d e f x y z : Value} (H : Below W.heap.size W w ∧ w.cell? ⟨g, 0, none⟩ = some a ∧ w.cell? ⟨g, 1, none⟩ = some b ∧ w.cell? ⟨g, 2, none⟩ = some c ∧ w.cell? ⟨h, 0, none⟩ = some d ∧ w.cell? ⟨h, 1, none⟩ = some e ∧ w.cell? ⟨h, 2, none⟩ = some f ∧ w.cell? ⟨k, 0, none⟩ = some x ∧ w.cell? ⟨k, 1, none⟩ = some y ∧ w.cell? ⟨k, 2, none⟩ = some z) : Below W.heap.size W w := H.1
theorem held3_go {W w w' : World} {g : Nat} {a b c : Value} (H : Below W.heap.size W w ∧ w.cell? ⟨g, 0, none⟩ = some a ∧ w.cell? ⟨g, 1, none⟩ = some b ∧ w.cell? ⟨g, 2, none⟩ = some c) (hb : Below w.heap.size w w') :
    Below W.heap.size W w' ∧ w'.cell? ⟨g, 0, none⟩ = some a ∧ w'.cell? ⟨g, 1, none⟩ = some b ∧ w'.cell? ⟨g, 2, none⟩ = some c := by
  obtain ⟨k0, k1, k2, k3⟩ := H
  have key : ∀ {p : Addr} {v : Value}, w.cell? p = some v → w'.cell? p = some v := fun {p v} h => (hb.cell (p := p) (World.block_lt_of_cell? _ _ h)).trans h
  exact ⟨btwo k0 hb, key k1, key k2, key k3⟩
theorem held3_b {W w : World} {g : Nat} {a b c : Value} (H : Below W.heap.size W w ∧ w.cell? ⟨g, 0, none⟩ = some a ∧ w.cell? ⟨g, 1, none⟩ = some b ∧ w.cell? ⟨g, 2, none⟩ = some c) : Below W.heap.size W w := H.1
theorem sgn_in (a : Int) : -1 ≤ sgn a ∧ sgn a ≤ 1 := by
  unfold sgn; split
  · omega
  · split <;> omega
theorem cmpR_in (s s2 : Bool) (L M L2 M2 : List Int) : -1 ≤ cmpR s s2 L M L2 M2 ∧ cmpR s s2 L M L2 M2 ≤ 1 := by
  by_cases h : vldF s L M = true
  · by_cases k : vldF s2 L2 M2 = true
    · rw [cmpR_ok h k, cmpV_sgn (fr_of h) (fr_of k)]; exact sgn_in _
    · rw [cmpR_no (fun e => k e.2)]; omega
  · rw [cmpR_no (fun e => h e.1)]; omega
theorem one_fr : Fr false 0 1 := ⟨Int.le_refl _, by omega, by decide, by simp⟩
theorem num_dr {w : World} {v : Value} {x : Int} (h : NumAt w v x) {n : Nat} : NumAt (w.drewN n) v x := h.below (bdr (Below.refl _ _) n)
theorem vldF_digs {s : Bool} {p q : Int} (h : Fr s p q) (lp : vldB (digs p) = true) (lq : vldB (digs q) = true) (ep : val (digs p) = p) (eq : val (digs q) = q) : vldF s (digs p) (digs q) = true :=
  decide_eq_true ⟨⟨lp, lq⟩, by rw [eq]; exact h.d, by rw [ep, eq]; exact h.g, by rw [ep]; exact h.z⟩
theorem fcmp_num (s s2 : Bool) (n c m d n2 c2 m2 d2 : Nat) (p q r t : Int) (A B A2 B2 : Option Addr) (W : World) (hp : NumAt W (.slice A n c) p) (hq : NumAt W (.slice B m d) q) (hr : NumAt W (.slice A2 n2 c2) r) (ht : NumAt W (.slice B2 m2 d2) t) (h : Fr s p q) (k : Fr s2 r t) :
    Calls Tryz.prog 23 #[.agg #[.bool s, .slice A n c, .slice B m d], .agg #[.bool s2, .slice A2 n2 c2, .slice B2 m2 d2]] W fun e w' => e = .returned (.int .i64 (cmpV s s2 p q r t)) ∧ Below W.heap.size W w' := by
  obtain ⟨a1, a2, a3, a4, a5, a6, a7, a8⟩ := num_in hp
  obtain ⟨b1, b2, b3, b4, b5, b6, b7, b8⟩ := num_in hq
  obtain ⟨c1, c2', c3, c4, c5, c6, c7, c8⟩ := num_in hr
  obtain ⟨d1, d2', d3, d4, d5, d6, d7, d8⟩ := num_in ht
  have := fcmp_any s s2 (digs p) (digs q) (digs r) (digs t) n c m d n2 c2 m2 d2 A B A2 B2 W a1 b1 a2 b2 a4 b4 a5 b5 c1 d1 c2' d2' c4 d4 c5 d5
  rwa [cmpR_ok (vldF_digs h a6 b6 a7 b7) (vldF_digs k c6 d6 c7 d7), a7, b7, c7, d7] at this
theorem digs_val {x : Int} (h : 0 ≤ x) (hl : (digs x).length ≤ 200) : vldB (digs x) = true := vldB_digs hl
set_option maxHeartbeats 16000000 in
theorem lawcmp_any (s : Bool) (L M : List Int) (n c m d : Nat) (A B : Option Addr) (s2 : Bool) (L2 M2 : List Int) (n2 c2 m2 d2 : Nat) (A2 B2 : Option Addr) (s3 : Bool) (L3 M3 : List Int) (n3 c3 m3 d3 : Nat) (A3 B3 : Option Addr) (W : World) (hn : L.length = n) (hm : M.length = m) (hnc : n ≤ c) (hmd : m ≤ d) (hc63 : c ≤ maxLen) (hd63 : d ≤ maxLen) (hA : IntsIn W A L) (hB : IntsIn W B M) (hcr : c ≤ 17592186044416) (hdr : d ≤ 17592186044416) (hn2 : L2.length = n2) (hm2 : M2.length = m2) (hnc2 : n2 ≤ c2) (hmd2 : m2 ≤ d2) (hc632 : c2 ≤ maxLen) (hd632 : d2 ≤ maxLen) (hA2 : IntsIn W A2 L2) (hB2 : IntsIn W B2 M2) (hcr2 : c2 ≤ 17592186044416) (hdr2 : d2 ≤ 17592186044416) (hn3 : L3.length = n3) (hm3 : M3.length = m3) (hnc3 : n3 ≤ c3) (hmd3 : m3 ≤ d3) (hc633 : c3 ≤ maxLen) (hd633 : d3 ≤ maxLen) (hA3 : IntsIn W A3 L3) (hB3 : IntsIn W B3 M3) (hcr3 : c3 ≤ 17592186044416) (hdr3 : d3 ≤ 17592186044416) (hT : Tab W) (hC : Cutl W) :
    Calls Tryz.prog 5 #[.agg #[.bool s, .slice A n c, .slice B m d], .agg #[.bool s2, .slice A2 n2 c2, .slice B2 m2 d2], .agg #[.bool s3, .slice A3 n3 c3, .slice B3 m3 d3]] W fun e w' => e = .returned (.bool true) ∧ Below W.heap.size W w' := by
  have VW := (((BoxF.start W).new s A n c B m d).new s2 A2 n2 c2 B2 m2 d2).new s3 A3 n3 c3 B3 m3 d3
  rw [show ((W.alloc (.cells #[.bool s, .slice A n c, .slice B m d] 26)).alloc (.cells #[.bool s2, .slice A2 n2 c2, .slice B2 m2 d2] 26)).heap.size = W.heap.size + 1 + 1 by simp, show (W.alloc (.cells #[.bool s, .slice A n c, .slice B m d] 26)).heap.size = W.heap.size + 1 by simp] at VW
  have V0 := Lib.hid VW
  have HT := Lib.hid hT
  have HC := Lib.hid hC
  have HN := Lib.hid hn
  have HM := Lib.hid hm
  have HA := Lib.hid hA
  have HB := Lib.hid hB
  have HN2 := Lib.hid hn2
  have HM2 := Lib.hid hm2
  have HA2 := Lib.hid hA2
  have HB2 := Lib.hid hB2
  have HN3 := Lib.hid hn3
  have HM3 := Lib.hid hm3
  have HA3 := Lib.hid hA3
  have HB3 := Lib.hid hB3
  clear VW hT hC hn hm hA hB hn2 hm2 hA2 hB2 hn3 hm3 hA3 hB3
  have HLEN := Lib.hid (show ∀ j, (([(n, m), (n2, m2), (n3, m3)] : List (Nat × Nat)).getD j (0, 0)).1 ≤ 17592186044416 ∧ (([(n, m), (n2, m2), (n3, m3)] : List (Nat × Nat)).getD j (0, 0)).2 ≤ 17592186044416 from fun j => by
    match j with
    | 0 => exact ⟨by show n ≤ _; omega, by show m ≤ _; omega⟩
    | 1 => exact ⟨by show n2 ≤ _; omega, by show m2 ≤ _; omega⟩
    | 2 => exact ⟨by show n3 ≤ _; omega, by show m3 ≤ _; omega⟩
    | j + 3 => simp)
  cases hf : fewF [(n, m), (n2, m2), (n3, m3)] 110 with
  | false =>
    have HF := Lib.hid hf
    clear hf
    go_enter Tryz.func5, Tryz.ntmps5
    go_wp2_with fail
    refine (awake_any _ (HT.out.below V0.out.2.2) (HC.out.below V0.out.2.2)).mono ?_
    rintro e w1 ⟨rfl, b1⟩
    have V1 := Lib.hid (V0.out.go b1)
    clear b1
    obtain ⟨x0, x1, x2, x3⟩ := V1.out.box (.tail _ (.tail _ (.head _)))
    obtain ⟨y0, y1, y2, y3⟩ := V1.out.box (.tail _ (.head _))
    obtain ⟨z0, z1, z2, z3⟩ := V1.out.box (.head _)
    have VL := Lib.hid (V1.out.go (one_new (o := .cells #[.bool s, .slice A n c, .slice B m d, .bool s2, .slice A2 n2 c2, .slice B2 m2 d2, .bool s3, .slice A3 n3 c3, .slice B3 m3 d3] 26)))
    go_wp2_with fail
    refine (few03_any [(n, m), (n2, m2), (n3, m3)] _ 3 3 110 _ rfl (by omega) HLEN.out (by omega) (fracs_three s A B n c m d s2 A2 B2 n2 c2 m2 d2 s3 A3 B3 n3 c3 m3 d3 _)).mono ?_
    rintro e w2 ⟨rfl, b2⟩
    clear x0 x1 x2 x3 y0 y1 y2 y3 z0 z1 z2 z3
    rw [HF.out]
    have V2 := Lib.hid (VL.out.go b2)
    clear b2
    go_wp2_with fail
    refine (awake_any _ (HT.out.below V2.out.2.2) (HC.out.below V2.out.2.2)).mono ?_
    rintro e w3 ⟨rfl, b3⟩
    have V3 := Lib.hid (V2.out.go b3)
    clear b3
    go_wp2_with fail
    go_ret
    exact ⟨rfl, V3.out.2.2⟩
  | true =>
    have HF := Lib.hid hf
    clear hf
    obtain ⟨ca, ha⟩ : ∃ v, v = cmpR s s2 L M L2 M2 := ⟨_, rfl⟩
    have Ka := cmpR_in s s2 L M L2 M2
    rw [← ha] at Ka
    obtain ⟨Ka1, Ka2⟩ := Ka
    have Ea := Lib.hid ha
    have Pa := Lib.hid (fun w (b : Below W.heap.size W w) => show Calls Tryz.prog 23 #[.agg #[.bool s, .slice A n c, .slice B m d], .agg #[.bool s2, .slice A2 n2 c2, .slice B2 m2 d2]] w (fun e w' => e = .returned (.int .i64 ca) ∧ Below w.heap.size w w') by rw [ha]; exact fcmp_any s s2 L M L2 M2 n c m d n2 c2 m2 d2 A B A2 B2 w HN.out HM.out hnc hmd hc63 hd63 (HA.out.below b) (HB.out.below b) HN2.out HM2.out hnc2 hmd2 hc632 hd632 (HA2.out.below b) (HB2.out.below b))
    have Ra := Lib.hid (fun w (b : Below W.heap.size W w) => show Calls Tryz.prog 24 #[.agg #[.bool s, .slice A n c, .slice B m d], .agg #[.bool s2, .slice A2 n2 c2, .slice B2 m2 d2]] w (fun e w' => e = .returned (.int .i64 ca) ∧ Below w.heap.size w w') by rw [ha]; exact rcmp3_any s s2 L M L2 M2 n c m d n2 c2 m2 d2 A B A2 B2 w HN.out HM.out hnc hmd hc63 hd63 (HA.out.below b) (HB.out.below b) HN2.out HM2.out hnc2 hmd2 hc632 hd632 (HA2.out.below b) (HB2.out.below b))
    obtain ⟨cb, hb⟩ : ∃ v, v = cmpR s2 s3 L2 M2 L3 M3 := ⟨_, rfl⟩
    have Kb := cmpR_in s2 s3 L2 M2 L3 M3
    rw [← hb] at Kb
    obtain ⟨Kb1, Kb2⟩ := Kb
    have Eb := Lib.hid hb
    have Pb := Lib.hid (fun w (b : Below W.heap.size W w) => show Calls Tryz.prog 23 #[.agg #[.bool s2, .slice A2 n2 c2, .slice B2 m2 d2], .agg #[.bool s3, .slice A3 n3 c3, .slice B3 m3 d3]] w (fun e w' => e = .returned (.int .i64 cb) ∧ Below w.heap.size w w') by rw [hb]; exact fcmp_any s2 s3 L2 M2 L3 M3 n2 c2 m2 d2 n3 c3 m3 d3 A2 B2 A3 B3 w HN2.out HM2.out hnc2 hmd2 hc632 hd632 (HA2.out.below b) (HB2.out.below b) HN3.out HM3.out hnc3 hmd3 hc633 hd633 (HA3.out.below b) (HB3.out.below b))
    have Rb := Lib.hid (fun w (b : Below W.heap.size W w) => show Calls Tryz.prog 24 #[.agg #[.bool s2, .slice A2 n2 c2, .slice B2 m2 d2], .agg #[.bool s3, .slice A3 n3 c3, .slice B3 m3 d3]] w (fun e w' => e = .returned (.int .i64 cb) ∧ Below w.heap.size w w') by rw [hb]; exact rcmp3_any s2 s3 L2 M2 L3 M3 n2 c2 m2 d2 n3 c3 m3 d3 A2 B2 A3 B3 w HN2.out HM2.out hnc2 hmd2 hc632 hd632 (HA2.out.below b) (HB2.out.below b) HN3.out HM3.out hnc3 hmd3 hc633 hd633 (HA3.out.below b) (HB3.out.below b))
    obtain ⟨cc, hc⟩ : ∃ v, v = cmpR s s3 L M L3 M3 := ⟨_, rfl⟩
    have Kc := cmpR_in s s3 L M L3 M3
    rw [← hc] at Kc
    obtain ⟨Kc1, Kc2⟩ := Kc
    have Ec := Lib.hid hc
    have Pc := Lib.hid (fun w (b : Below W.heap.size W w) => show Calls Tryz.prog 23 #[.agg #[.bool s, .slice A n c, .slice B m d], .agg #[.bool s3, .slice A3 n3 c3, .slice B3 m3 d3]] w (fun e w' => e = .returned (.int .i64 cc) ∧ Below w.heap.size w w') by rw [hc]; exact fcmp_any s s3 L M L3 M3 n c m d n3 c3 m3 d3 A B A3 B3 w HN.out HM.out hnc hmd hc63 hd63 (HA.out.below b) (HB.out.below b) HN3.out HM3.out hnc3 hmd3 hc633 hd633 (HA3.out.below b) (HB3.out.below b))
    have Rc := Lib.hid (fun w (b : Below W.heap.size W w) => show Calls Tryz.prog 24 #[.agg #[.bool s, .slice A n c, .slice B m d], .agg #[.bool s3, .slice A3 n3 c3, .slice B3 m3 d3]] w (fun e w' => e = .returned (.int .i64 cc) ∧ Below w.heap.size w w') by rw [hc]; exact rcmp3_any s s3 L M L3 M3 n c m d n3 c3 m3 d3 A B A3 B3 w HN.out HM.out hnc hmd hc63 hd63 (HA.out.below b) (HB.out.below b) HN3.out HM3.out hnc3 hmd3 hc633 hd633 (HA3.out.below b) (HB3.out.below b))
    have PX := Lib.hid (fun w (b : Below W.heap.size W w) => show Calls Tryz.prog 23 #[.agg #[.bool s2, .slice A2 n2 c2, .slice B2 m2 d2], .agg #[.bool s, .slice A n c, .slice B m d]] w (fun e w' => e = .returned (.int .i64 (-ca)) ∧ Below w.heap.size w w') by rw [ha, ← cmpR_flip]; exact fcmp_any s2 s L2 M2 L M n2 c2 m2 d2 n c m d A2 B2 A B w HN2.out HM2.out hnc2 hmd2 hc632 hd632 (HA2.out.below b) (HB2.out.below b) HN.out HM.out hnc hmd hc63 hd63 (HA.out.below b) (HB.out.below b))
    clear ha hb hc
    go_enter Tryz.func5, Tryz.ntmps5
    go_wp2_with fail
    refine (awake_any _ (HT.out.below V0.out.2.2) (HC.out.below V0.out.2.2)).mono ?_
    rintro e w1 ⟨rfl, b1⟩
    have V1 := Lib.hid (V0.out.go b1)
    clear b1
    obtain ⟨x0, x1, x2, x3⟩ := V1.out.box (.tail _ (.tail _ (.head _)))
    obtain ⟨y0, y1, y2, y3⟩ := V1.out.box (.tail _ (.head _))
    obtain ⟨z0, z1, z2, z3⟩ := V1.out.box (.head _)
    have VL := Lib.hid (V1.out.go (one_new (o := .cells #[.bool s, .slice A n c, .slice B m d, .bool s2, .slice A2 n2 c2, .slice B2 m2 d2, .bool s3, .slice A3 n3 c3, .slice B3 m3 d3] 26)))
    go_wp2_with fail
    refine (few03_any [(n, m), (n2, m2), (n3, m3)] _ 3 3 110 _ rfl (by omega) HLEN.out (by omega) (fracs_three s A B n c m d s2 A2 B2 n2 c2 m2 d2 s3 A3 B3 n3 c3 m3 d3 _)).mono ?_
    rintro e w2 ⟨rfl, b2⟩
    clear x0 x1 x2 x3 y0 y1 y2 y3 z0 z1 z2 z3
    rw [HF.out]
    have V2 := Lib.hid (VL.out.go b2)
    clear b2
    obtain ⟨x0, x1, x2, x3⟩ := V2.out.box (.tail _ (.tail _ (.head _)))
    obtain ⟨y0, y1, y2, y3⟩ := V2.out.box (.tail _ (.head _))
    obtain ⟨z0, z1, z2, z3⟩ := V2.out.box (.head _)
    go_wp2_with fail
    go_region_held3 (fun w' => Below w2.heap.size w2 w' ∧ w'.cell? ⟨W.heap.size, 0, none⟩ = some (.bool s) ∧ w'.cell? ⟨W.heap.size, 1, none⟩ = some (.slice A n c) ∧ w'.cell? ⟨W.heap.size, 2, none⟩ = some (.slice B m d) ∧ w'.cell? ⟨W.heap.size + 1, 0, none⟩ = some (.bool s2) ∧ w'.cell? ⟨W.heap.size + 1, 1, none⟩ = some (.slice A2 n2 c2) ∧ w'.cell? ⟨W.heap.size + 1, 2, none⟩ = some (.slice B2 m2 d2) ∧ w'.cell? ⟨W.heap.size + 1 + 1, 0, none⟩ = some (.bool s3) ∧ w'.cell? ⟨W.heap.size + 1 + 1, 1, none⟩ = some (.slice A3 n3 c3) ∧ w'.cell? ⟨W.heap.size + 1 + 1, 2, none⟩ = some (.slice B3 m3 d3)) (first | exact held9_go (by assumption) b3 | exact held9_go ⟨Below.refl _ _, x0, x1, x2, y0, y1, y2, z0, z1, z2⟩ (Below.refl _ _).drew) (first | (go_at_call_of 23 (Value.bool s); go_at_call_of 23 (Value.bool s2); refine (Pa.out _ ?_).mono ?_; exact btwo V2.out.2.2 (held9_b (by assumption)); rintro e w3 ⟨rfl, b3⟩) | (go_at_call_of 23 (Value.bool s2); go_at_call_of 23 (Value.bool s3); refine (Pb.out _ ?_).mono ?_; exact btwo V2.out.2.2 (held9_b (by assumption)); rintro e w3 ⟨rfl, b3⟩) | (go_at_call_of 23 (Value.bool s); go_at_call_of 23 (Value.bool s3); refine (Pc.out _ ?_).mono ?_; exact btwo V2.out.2.2 (held9_b (by assumption)); rintro e w3 ⟨rfl, b3⟩))
    have KS := held9_b (W := w2) (w := w3) (by assumption)
    have V3 := Lib.hid (V2.out.go KS)
    clear KS x0 x1 x2 x3 y0 y1 y2 y3 z0 z1 z2 z3
    obtain ⟨x0, x1, x2, x3⟩ := V3.out.box (.tail _ (.tail _ (.head _)))
    obtain ⟨y0, y1, y2, y3⟩ := V3.out.box (.tail _ (.head _))
    go_wp2_with fail
    refine (Ra.out _ V3.out.2.2).mono ?_
    rintro e w4 ⟨rfl, b4⟩
    clear x0 x1 x2 x3 y0 y1 y2 y3
    have V4 := Lib.hid (V3.out.go b4)
    clear b4
    obtain ⟨y0, y1, y2, y3⟩ := V4.out.box (.tail _ (.head _))
    obtain ⟨z0, z1, z2, z3⟩ := V4.out.box (.head _)
    go_wp2_with fail
    refine (Rb.out _ V4.out.2.2).mono ?_
    rintro e w5 ⟨rfl, b5⟩
    clear y0 y1 y2 y3 z0 z1 z2 z3
    have V5 := Lib.hid (V4.out.go b5)
    clear b5
    obtain ⟨x0, x1, x2, x3⟩ := V5.out.box (.tail _ (.tail _ (.head _)))
    obtain ⟨z0, z1, z2, z3⟩ := V5.out.box (.head _)
    go_wp2_with fail
    refine (Rc.out _ V5.out.2.2).mono ?_
    rintro e w6 ⟨rfl, b6⟩
    clear x0 x1 x2 x3 z0 z1 z2 z3
    have V6 := Lib.hid (V5.out.go b6)
    clear b6
    obtain ⟨x0, x1, x2, x3⟩ := V6.out.box (.tail _ (.tail _ (.head _)))
    obtain ⟨y0, y1, y2, y3⟩ := V6.out.box (.tail _ (.head _))
    go_wp2_with fail
    refine (PX.out _ V6.out.2.2).mono ?_
    rintro e w7 ⟨rfl, b7⟩
    clear x0 x1 x2 x3 y0 y1 y2 y3
    have V7 := Lib.hid (V6.out.go b7)
    clear b7
    cases hv : vldF s L M with
    | false =>
      have HV := Lib.hid hv
      clear hv
      obtain ⟨x0, x1, x2, x3⟩ := V7.out.box (.tail _ (.tail _ (.head _)))
      go_wp2_with fail
      refine (rfvalid_is s L M n c m d A B _ HN.out HM.out hnc hmd hc63 hd63 (HA.out.below V7.out.2.2) (HB.out.below V7.out.2.2) HV.out).mono ?_
      rintro e w8 ⟨rfl, b8⟩
      clear x0 x1 x2 x3
      have V8 := Lib.hid (V7.out.go b8)
      clear b8
      go_wp2_with fail
      go_ret
      exact ⟨rfl, V8.out.2.2⟩
    | true =>
      have HV := Lib.hid hv
      have Fx := Lib.hid (fr_of hv)
      clear hv
      obtain ⟨x0, x1, x2, x3⟩ := V7.out.box (.tail _ (.tail _ (.head _)))
      go_wp2_with fail
      refine (rfvalid_is s L M n c m d A B _ HN.out HM.out hnc hmd hc63 hd63 (HA.out.below V7.out.2.2) (HB.out.below V7.out.2.2) HV.out).mono ?_
      rintro e w8 ⟨rfl, b8⟩
      clear x0 x1 x2 x3
      have V8 := Lib.hid (V7.out.go b8)
      clear b8
      cases hv : vldF s2 L2 M2 with
      | false =>
        have HV2 := Lib.hid hv
        clear hv
        obtain ⟨y0, y1, y2, y3⟩ := V8.out.box (.tail _ (.head _))
        go_wp2_with fail
        refine (rfvalid_is s2 L2 M2 n2 c2 m2 d2 A2 B2 _ HN2.out HM2.out hnc2 hmd2 hc632 hd632 (HA2.out.below V8.out.2.2) (HB2.out.below V8.out.2.2) HV2.out).mono ?_
        rintro e w9 ⟨rfl, b9⟩
        clear y0 y1 y2 y3
        have V9 := Lib.hid (V8.out.go b9)
        clear b9
        go_wp2_with fail
        go_ret
        exact ⟨rfl, V9.out.2.2⟩
      | true =>
        have HV2 := Lib.hid hv
        have Fy := Lib.hid (fr_of hv)
        clear hv
        obtain ⟨y0, y1, y2, y3⟩ := V8.out.box (.tail _ (.head _))
        go_wp2_with fail
        refine (rfvalid_is s2 L2 M2 n2 c2 m2 d2 A2 B2 _ HN2.out HM2.out hnc2 hmd2 hc632 hd632 (HA2.out.below V8.out.2.2) (HB2.out.below V8.out.2.2) HV2.out).mono ?_
        rintro e w9 ⟨rfl, b9⟩
        clear y0 y1 y2 y3
        have V9 := Lib.hid (V8.out.go b9)
        clear b9
        cases hv : vldF s3 L3 M3 with
        | false =>
          have HV3 := Lib.hid hv
          clear hv
          obtain ⟨z0, z1, z2, z3⟩ := V9.out.box (.head _)
          go_wp2_with fail
          refine (rfvalid_is s3 L3 M3 n3 c3 m3 d3 A3 B3 _ HN3.out HM3.out hnc3 hmd3 hc633 hd633 (HA3.out.below V9.out.2.2) (HB3.out.below V9.out.2.2) HV3.out).mono ?_
          rintro e w10 ⟨rfl, b10⟩
          clear z0 z1 z2 z3
          have V10 := Lib.hid (V9.out.go b10)
          clear b10
          go_wp2_with fail
          go_ret
          exact ⟨rfl, V10.out.2.2⟩
        | true =>
          have HV3 := Lib.hid hv
          have Fz := Lib.hid (fr_of hv)
          clear hv
          obtain ⟨z0, z1, z2, z3⟩ := V9.out.box (.head _)
          go_wp2_with fail
          refine (rfvalid_is s3 L3 M3 n3 c3 m3 d3 A3 B3 _ HN3.out HM3.out hnc3 hmd3 hc633 hd633 (HA3.out.below V9.out.2.2) (HB3.out.below V9.out.2.2) HV3.out).mono ?_
          rintro e w10 ⟨rfl, b10⟩
          clear z0 z1 z2 z3
          have V10 := Lib.hid (V9.out.go b10)
          clear b10
          obtain ⟨⟨sd, pd, qd, ed⟩, hd⟩ : ∃ r, r = opR difR s s2 L M L2 M2 := ⟨_, rfl⟩
          have HG := Lib.hid (show GoodF (sd, pd, qd, ed) by rw [hd]; exact op_good dif_good s s2 L M L2 M2)
          have HD := Lib.hid (hd.trans (opR_ok HV.out HV2.out))
          have HS := Lib.hid (fun w (b : Below W.heap.size W w) => show Calls Tryz.prog 15 #[.agg #[.bool s, .slice A n c, .slice B m d], .agg #[.bool s2, .slice A2 n2 c2, .slice B2 m2 d2]] w (FrE (sd, pd, qd, ed) w) by rw [hd]; exact fsub_any s s2 L M L2 M2 n c m d n2 c2 m2 d2 A B A2 B2 w HN.out HM.out hnc hmd hc63 hd63 (HA.out.below b) (HB.out.below b) HN2.out HM2.out hnc2 hmd2 hc632 hd632 (HA2.out.below b) (HB2.out.below b))
          have JA1 := Lib.hid (Ea.out.trans (cmpR_ok HV.out HV2.out))
          have JA2 := Lib.hid (Eb.out.trans (cmpR_ok HV2.out HV3.out))
          have JA3 := Lib.hid (Ec.out.trans (cmpR_ok HV.out HV3.out))
          clear hd
          obtain ⟨x0, x1, x2, x3⟩ := V10.out.box (.tail _ (.tail _ (.head _)))
          obtain ⟨y0, y1, y2, y3⟩ := V10.out.box (.tail _ (.head _))
          go_wp2_with fail
          refine (HS.out _ V10.out.2.2).mono ?_
          rintro e w11 ⟨Ap, cp, kp, Aq, cq, kq, rfl, np, nq, b11⟩
          clear x0 x1 x2 x3 y0 y1 y2 y3
          have VD := Lib.hid ((((V10.out.go b11).num nq).num np).new sd Ap kp cp Aq kq cq)
          clear b11 np nq
          obtain ⟨gd, hgd⟩ : ∃ g, g = w11.heap.size := ⟨_, rfl⟩
          go_upto_region 9 with fail
          go_cut [86] (fun sv wx => sv = .bool false ∧ BoxF W [(W.heap.size + 1 + 1, ⟨s3, A3, n3, c3, B3, m3, d3⟩), (W.heap.size + 1, ⟨s2, A2, n2, c2, B2, m2, d2⟩), (W.heap.size, ⟨s, A, n, c, B, m, d⟩)] [] wx)
          case first =>
            clear hgd
            have N1 := Lib.hid (VD.out.at (.head _))
            have N2 := Lib.hid (VD.out.at (.tail _ (.head _)))
            by_cases he : ed = 0
            · have hb : (ed == 0) = true := by simpa using he
              have HL := Lib.hid (HG.out.fr he)
              have HC := Lib.hid (show cmpV sd false pd qd 0 1 = ca by rw [JA1.out]; exact dif_cmp Fx.out Fy.out (by rw [← HD.out, he]) HL.out)
              clear he
              obtain ⟨e0, e1, e2, e3⟩ := VD.out.box (.head _)
              obtain ⟨wd, hwd⟩ : ∃ x, x = w11.alloc (.cells #[.bool sd, .slice Ap kp cp, .slice Aq kq cq] 26) := ⟨_, rfl⟩
              rw [← hwd] at VD N1 N2 e0 e1 e2 e3 ⊢
              clear hwd
              go_region_held3 (fun w' => Below wd.heap.size wd w' ∧ w'.cell? ⟨w11.heap.size, 0, none⟩ = some (.bool sd) ∧ w'.cell? ⟨w11.heap.size, 1, none⟩ = some (.slice Ap kp cp) ∧ w'.cell? ⟨w11.heap.size, 2, none⟩ = some (.slice Aq kq cq)) (first | exact held3_go (by assumption) by3 | exact held3_go (by assumption) bz3 | exact held3_go ⟨Below.refl _ _, e0, e1, e2⟩ (Below.refl _ _).drew) (first | (go_at_call 26; refine (rfzero_any _).mono ?_; rintro e wz ⟨Az, cz, kz, Bz, dz, lz, rfl, nz, mz, bz3⟩; have NZ := Lib.hid nz; have MZ := Lib.hid mz; clear nz mz) | (go_at_call 23; refine (fcmp_num sd false kp cp kq cq kz cz lz dz pd qd 0 1 Ap Aq Az Bz _ ?_ ?_ ?_ ?_ HL.out one_fr).mono ?_; exact N1.out.below (held3_b (by assumption)); exact N2.out.below (held3_b (by assumption)); (first | exact NZ.out | exact num_dr NZ.out | exact NZ.out.below ((Below.refl _ _).drew)); (first | exact MZ.out | exact num_dr MZ.out | exact MZ.out.below ((Below.refl _ _).drew)); rw [HC.out]; rintro e wy ⟨rfl, by3⟩))
              all_goals (go_wp2_with fail; go_meet)
              all_goals exact ⟨rfl, (VD.out.go (held3_b (W := wd) (by assumption))).sub (fun _ h => .tail _ h) (fun _ h => by simp at h)⟩
            · have hb : (ed == 0) = false := by simpa using he
              clear he
              go_still_tail 8, (by kernel_rfl)
              go_wp2_with fail
              go_meet
              exact ⟨rfl, (VD.out.go (Below.refl _ _).drew).sub (fun _ h => .tail _ h) (fun _ h => by simp at h)⟩
          case rest =>
            obtain ⟨rfl, hV⟩ := hcut
            have VR := Lib.hid hV
            clear hV hgd VD
            have HQ := Lib.hid (show decide (s = s2 ∧ val L = val L2 ∧ val M = val M2) = (ca == 0) by rw [JA1.out]; have h := cmpV_zero Fx.out Fy.out; by_cases e : cmpV s s2 (val L) (val M) (val L2) (val M2) = 0; rw [decide_eq_true (h.1 e)]; simp [e]; rw [decide_eq_false (fun g => e (h.2 g))]; simp [e])
            obtain ⟨x0, x1, x2, x3⟩ := VR.out.box (.tail _ (.tail _ (.head _)))
            obtain ⟨y0, y1, y2, y3⟩ := VR.out.box (.tail _ (.head _))
            go_wp2_with fail
            refine (same03_b s s2 n c m d n2 c2 m2 d2 (val L) (val M) (val L2) (val M2) A B A2 B2 _ (num_mk HN.out hnc hc63 (HA.out.below VR.out.2.2) (vldF_pos HV.out).1) (num_mk HM.out hmd hd63 (HB.out.below VR.out.2.2) (vldF_pos HV.out).2.1) (num_mk HN2.out hnc2 hc632 (HA2.out.below VR.out.2.2) (vldF_pos HV2.out).1) (num_mk HM2.out hmd2 hd632 (HB2.out.below VR.out.2.2) (vldF_pos HV2.out).2.1)).mono ?_
            rintro e w12 ⟨rfl, b12⟩
            clear x0 x1 x2 x3 y0 y1 y2 y3
            rw [HQ.out]
            have VE := Lib.hid (VR.out.go b12)
            clear b12
            have hab : ((ca == 0) == (ca == 0)) = true := by simp
            by_cases h1 : 0 < ca
            · have g1 : decide (0 < ca) = true := decide_eq_true h1
              go_wp2_with fail
              go_ret
              exact ⟨by simp, VE.out.2.2⟩
            · have g1 : decide (0 < ca) = false := decide_eq_false h1
              by_cases h2 : 0 < cb
              · have g2 : decide (0 < cb) = true := decide_eq_true h2
                go_wp2_with fail
                go_ret
                exact ⟨by simp, VE.out.2.2⟩
              · have g2 : decide (0 < cb) = false := decide_eq_false h2
                have h3 : cc ≤ 0 := by rw [JA3.out]; exact cmpV_trans Fx.out Fy.out Fz.out (by rw [← JA1.out]; omega) (by rw [← JA2.out]; omega)
                have g3 : decide (cc ≤ 0) = true := decide_eq_true h3
                go_wp2_with fail
                go_ret
                exact ⟨by simp, VE.out.2.2⟩
end Go.Proofs.YtbhneddjjgegmaaGreatDoor
