/- How the program compares two fractions, in general. -/
import Derived.Test.YtkfkefgkepoaaaaGreatDoorHC
import Derived.Test.YtkfkefgkepoaaaaGreatDoorNReg
import Derived.Deep.DeepCutAuto
import Derived.Deep.RegionHeld3
import Derived.BigRegion
import Derived.WalkSmall
import Derived.Test.YtkfkefgkepoaaaaGreatDoorHD
namespace Go.Proofs.YtkfkefgkepoaaaaGreatDoor
open Go.RowKit
set_option linter.unusedVariables false
set_option maxRecDepth 100000

theorem quadB {W wz : World} {T : TypeId} {ln : List (Value × Int)} {A1 A2 A3 A4 : Option Addr} {n1 n2 n3 n4 c1 c2 c3 c4 : Nat} {N : Nat} (h : BoxesW W T [] ln wz) (hN : wz.heap.size = N) (w : World) (hw : w = ((((wz.alloc (.cells #[.slice A1 n1 c1] T)).alloc (.cells #[.slice A2 n2 c2] T)).alloc (.cells #[.slice A3 n3 c3] T)).alloc (.cells #[.slice A4 n4 c4] T)).drew) :
    BoxesW W T [(N + 1 + 1 + 1, .slice A4 n4 c4), (N + 1 + 1, .slice A3 n3 c3), (N + 1, .slice A2 n2 c2), (N, .slice A1 n1 c1)] ln w := by
  subst hw
  subst hN
  have h4 := (((h.new A1 n1 c1).new A2 n2 c2).new A3 n3 c3).new A4 n4 c4
  have h5 := h4.go (Below.refl _ _).drew
  simpa using h5
def CSt (W : World) (z : Int) (b5 b6 b7 b8 : Nat) (o : Int) (w : World) : Prop :=
  ∃ (A B A2 B2 : Option Addr) (n c m d n2 c2 m2 d2 : Nat) (p q r s : Int), (o = 1 ∨ o = -1) ∧ 0 < q ∧ 0 < s ∧ o * sgn (p * s - r * q) = z ∧ BoxesW W 30 [(b5, .slice A n c), (b6, .slice B m d), (b7, .slice A2 n2 c2), (b8, .slice B2 m2 d2)] [(.slice A n c, p), (.slice B m d, q), (.slice A2 n2 c2, r), (.slice B2 m2 d2, s)] w
theorem held2_set {w : World} {a c b : Nat} {u v x : Value} (ha : b ≠ a) (hc : b ≠ c) (h : w.cell? ⟨a, 0, none⟩ = some u ∧ w.cell? ⟨c, 0, none⟩ = some v) : (w.setCell ⟨b, 0, none⟩ x).cell? ⟨a, 0, none⟩ = some u ∧ (w.setCell ⟨b, 0, none⟩ x).cell? ⟨c, 0, none⟩ = some v :=
  ⟨(World.cell?_setCell_far w _ _ x ha).trans h.1, (World.cell?_setCell_far w _ _ x hc).trans h.2⟩
theorem sgn_bd (a : Int) : -1 ≤ sgn a ∧ sgn a ≤ 1 := by
  unfold sgn; split
  · omega
  · split <;> omega
theorem BoxesW.new2 {W w : World} {T : TypeId} {lb : List (Nat × Value)} {ln : List (Value × Int)} (h : BoxesW W T lb ln w) (A : Option Addr) (n c : Nat) (B : Option Addr) (m d : Nat) :
    BoxesW W T ((w.heap.size + 1, .slice B m d) :: (w.heap.size, .slice A n c) :: lb) ln ((w.alloc (.cells #[.slice A n c] T)).alloc (.cells #[.slice B m d] T)) := by
  have h2 := (h.new A n c).new B m d
  simpa using h2
theorem BoxesW.put {W w : World} {T : TypeId} {lb : List (Nat × Value)} {ln : List (Value × Int)} {g : Nat} {v : Value} (h : BoxesW W T lb ln w) (hm : (g, v) ∈ lb) (A : Option Addr) (n c : Nat) (lb' : List (Nat × Value)) (h' : ∀ x ∈ lb', x = (g, .slice A n c) ∨ (x ∈ lb ∧ ¬ x.1 = g)) :
    BoxesW W T lb' ln (w.setCell ⟨g, 0, none⟩ (.slice A n c)) := by
  refine (h.set hm A n c).sub (fun x hx => ?_) (fun _ h => h)
  rcases h' x hx with rfl | ⟨h1, h2⟩
  · exact List.mem_map.2 ⟨(g, v), hm, by simp⟩
  · exact List.mem_map.2 ⟨x, h1, by simp [h2]⟩
set_option maxHeartbeats 16000000 in
theorem compare_num (t1 t2 : Bool) (n c m d n2 c2 m2 d2 : Nat) (p q r s : Int) (A B A2 B2 : Option Addr) (W : World) (hx : NumAt W (.slice A n c) p) (hy : NumAt W (.slice B m d) q) (hx2 : NumAt W (.slice A2 n2 c2) r) (hy2 : NumAt W (.slice B2 m2 d2) s) (hq : 0 < q) (hs0 : 0 < s) :
    Calls Tryz.prog 36 #[.agg #[.bool t1, .slice A n c, .slice B m d], .agg #[.bool t2, .slice A2 n2 c2, .slice B2 m2 d2]] W fun e w' => e = .returned (.int .i64 (sgn (p * s - r * q))) ∧ Below W.heap.size W w' := by
  obtain ⟨wz, hwz⟩ : ∃ wz : World, wz = (W.alloc (.cells #[.bool t1, .slice A n c, .slice B m d] 32)).alloc (.cells #[.bool t2, .slice A2 n2 c2, .slice B2 m2 d2] 32) := ⟨_, rfl⟩
  have h0 := ((((((LiveA.start W).num hy2).num hx2).num hy).num hx).newF (.bool t1) (.slice A n c) (.slice B m d) 32).newF (.bool t2) (.slice A2 n2 c2) (.slice B2 m2 d2) 32
  rw [show (W.alloc (.cells #[.bool t1, .slice A n c, .slice B m d] 32)).heap.size = W.heap.size + 1 by simp, ← hwz] at h0
  have hs : wz.heap.size = W.heap.size + 1 + 1 := by rw [hwz]; simp
  have g2 := (h0.box (.head _)).1
  have g1 := (h0.box (.tail _ (.head _))).1
  have f2 := (h0.box (.tail _ (.tail _ (.tail _ (.head _))))).1
  have f1 := (h0.box (.tail _ (.tail _ (.tail _ (.tail _ (.head _)))))).1
  have HB := Lib.hid (show BoxesW W 30 [] [(.slice A n c, p), (.slice B m d, q), (.slice A2 n2 c2, r), (.slice B2 m2 d2, s)] wz from ⟨fun _ _ h => by simp at h, h0.2.1, h0.2.2⟩)
  obtain ⟨z, hz⟩ : ∃ z, z = sgn (p * s - r * q) := ⟨_, rfl⟩
  have HS := Lib.hid (show 0 < q ∧ 0 < s ∧ 1 * sgn (p * s - r * q) = z from ⟨hq, hs0, by rw [hz]; omega⟩)
  rw [← hz]
  have HZ := Lib.hid hwz
  clear hwz h0 hx hy hx2 hy2 hq hs0 hz
  go_enter Tryz.func36, Tryz.ntmps36
  go_upto_region 1 with fail
  rw [← HZ.out]
  go_cut [5, 6, 7, 8] (fun s5 s6 s7 s8 wx => ∃ b5 b6 b7 b8 : Nat, s5 = .pointer (some ⟨b5, 0, none⟩) ∧ s6 = .pointer (some ⟨b6, 0, none⟩) ∧ s7 = .pointer (some ⟨b7, 0, none⟩) ∧ s8 = .pointer (some ⟨b8, 0, none⟩) ∧ (b5 ≠ b6 ∧ b5 ≠ b7 ∧ b5 ≠ b8 ∧ b6 ≠ b7 ∧ b6 ≠ b8 ∧ b7 ≠ b8) ∧ BoxesW W 30 [(b5, .slice A n c), (b6, .slice B m d), (b7, .slice A2 n2 c2), (b8, .slice B2 m2 d2)] [(.slice A n c, p), (.slice B m d, q), (.slice A2 n2 c2, r), (.slice B2 m2 d2, s)] wx)
  case first =>
    go_region_held3 (fun w' => w'.cell? ⟨W.heap.size, 1, none⟩ = some (.slice A n c) ∧ w'.cell? ⟨W.heap.size, 2, none⟩ = some (.slice B m d) ∧ w'.cell? ⟨W.heap.size + 1, 1, none⟩ = some (.slice A2 n2 c2) ∧ w'.cell? ⟨W.heap.size + 1, 2, none⟩ = some (.slice B2 m2 d2)) (first | exact ⟨f1, f2, g1, g2⟩ | exact held4_alloc (by assumption) | exact held4_alloc (held4_alloc (held4_alloc (held4_alloc ⟨f1, f2, g1, g2⟩)))) (fail)
    all_goals (go_wp2_with fail; go_meet)
    all_goals exact ⟨_, _, _, _, rfl, rfl, rfl, rfl, by omega, (quadB HB.out hs _ rfl).sub (by simp) (fun _ h => h)⟩
  case rest =>
    obtain ⟨b5, b6, b7, b8, rfl, rfl, rfl, rfl, hd, hbx⟩ := hcut
    have P0 := Lib.hid (show CSt W z b5 b6 b7 b8 1 _ from ⟨A, B, A2, B2, n, c, m, d, n2, c2, m2, d2, p, q, r, s, .inl rfl, HS.out.1, HS.out.2.1, HS.out.2.2, hbx⟩)
    have HD := Lib.hid hd
    clear hd hbx f1 f2 g1 g2 hs HS HB HZ
    go_wp2
    go_loopw [9] (fun ov wr => ∃ o : Int, ov = .int .i64 o ∧ CSt W z b5 b6 b7 b8 o wr) (fun _ wr => boxN b6 wr)
    case atStart => exact ⟨1, rfl, P0.out⟩
    case round =>
      obtain ⟨o, rfl, A, B, A2, B2, n, c, m, d, n2, c2, m2, d2, p, q, r, s, ho, hq, hs, hz, hb⟩ := hrel
      have B0 := Lib.hid hb
      have HZ := Lib.hid hz
      have HQ := Lib.hid hq
      have HR := Lib.hid hs
      have HA := Lib.hid (Int.emod_nonneg p (show q ≠ 0 by omega))
      have HC := Lib.hid (Int.emod_nonneg r (show s ≠ 0 by omega))
      have HL := Lib.hid (Int.emod_lt_of_pos p hq)
      clear hb hz hq hs
      rcases ho with rfl | rfl
      all_goals
        obtain ⟨x5, z5, y5⟩ := B0.out.box (.head _)
        obtain ⟨x6, z6, y6⟩ := B0.out.box (.tail _ (.head _))
        go_wp2_with fail
        refine (div_num n c m d p q A B _ (B0.out.at (.head _)) (B0.out.at (.tail _ (.head _))) HQ.out).mono ?_
        rintro e w1 ⟨Ap, cp, kp, Au, cu, ku, rfl, n1, m1, e1⟩
        clear x5 y5 z5 x6 y6 z6
        have U1 := Lib.hid (((B0.out.go e1).num n1).num m1)
        clear n1 m1 e1
        obtain ⟨x7, z7, y7⟩ := U1.out.box (.tail _ (.tail _ (.head _)))
        obtain ⟨x8, z8, y8⟩ := U1.out.box (.tail _ (.tail _ (.tail _ (.head _))))
        have lb5 := (U1.out.box (.head _)).2.2
        have lb6 := (U1.out.box (.tail _ (.head _))).2.2
        have lb7 := y7
        have lb8 := y8
        have V1 := Lib.hid (U1.out.new2 Ap kp cp Au ku cu)
        go_wp2_with fail
        refine (div_num n2 c2 m2 d2 r s A2 B2 _ (V1.out.at (.tail _ (.tail _ (.tail _ (.tail _ (.head _)))))) (V1.out.at (.tail _ (.tail _ (.tail _ (.tail _ (.tail _ (.head _))))))) HR.out).mono ?_
        rintro e w2 ⟨Aq, cq, kq, Av, cv, kv, rfl, n2', m2', e2⟩
        clear x7 y7 z7 x8 y8 z8
        have e2s := e2.size
        have U2 := Lib.hid (((V1.out.go e2).num n2').num m2')
        clear n2' m2' e2
        obtain ⟨xp, zp, yp⟩ := U2.out.box (.tail _ (.head _))
        have V2 := Lib.hid (U2.out.new2 Aq kq cq Av kv cv)
        go_wp2_with fail
        refine (cmp_num kp cp kq cq (p / q) (r / s) Ap Aq _ (V2.out.at (.tail _ (.tail _ (.tail _ (.head _))))) (V2.out.at (.tail _ (.head _)))).mono ?_
        rintro e w3 ⟨rfl, e3⟩
        clear xp yp zp
        have V3 := Lib.hid (V2.out.go e3)
        clear e3
        by_cases hw : p / q = r / s
        · have HW := Lib.hid (cf_rest hw)
          rw [show sgn (p / q - r / s) = 0 by rw [hw, Int.sub_self]; exact sgn_zero]
          clear hw
          obtain ⟨xp, zp, yp⟩ := V3.out.box (.tail _ (.tail _ (.head _)))
          obtain ⟨xr, zr, yr⟩ := V3.out.box (.head _)
          by_cases ha : p % q = 0
          · have HE := Lib.hid HZ.out
            rw [HW.out, ← cf_zero HQ.out HR.out HA.out HC.out (.inl ha)] at HE
            go_wp2_with fail
            refine (isZero_t ku cu _ Au _ (V3.out.at (.tail _ (.tail _ (.head _)))) ha).mono ?_
            rintro e w4 ⟨rfl, e4⟩
            clear xp yp zp xr yr zr
            have V4 := Lib.hid (V3.out.go e4)
            clear e4 ha
            obtain ⟨xp, zp, yp⟩ := V4.out.box (.tail _ (.tail _ (.head _)))
            obtain ⟨xr, zr, yr⟩ := V4.out.box (.head _)
            go_wp2_with fail
            refine (cmp_num ku cu kv cv (p % q) (r % s) Au Av _ (V4.out.at (.tail _ (.tail _ (.head _)))) (V4.out.at (.head _))).mono ?_
            rintro e w5 ⟨rfl, e5⟩
            clear xp yp zp xr yr zr
            obtain ⟨hs1, hs2⟩ := sgn_bd (p % q - r % s)
            obtain ⟨x, hx⟩ : ∃ x, sgn (p % q - r % s) = x := ⟨_, rfl⟩
            rw [hx] at hs1 hs2 HE
            rw [hx]
            clear hx
            go_wp2_with fail
            go_ret
            first | (obtain rfl : z = x := (by have := HE.out; omega); exact ⟨rfl, (V4.out.go e5).2.2⟩) | (obtain rfl : z = -x := (by have := HE.out; omega); exact ⟨rfl, (V4.out.go e5).2.2⟩)
          · go_wp2_with fail
            refine (isZero_f ku cu _ Au _ (V3.out.at (.tail _ (.tail _ (.head _)))) (by have := HA.out; omega)).mono ?_
            rintro e w4 ⟨rfl, e4⟩
            clear xp yp zp xr yr zr
            have V4 := Lib.hid (V3.out.go e4)
            clear e4
            obtain ⟨xp, zp, yp⟩ := V4.out.box (.tail _ (.tail _ (.head _)))
            obtain ⟨xr, zr, yr⟩ := V4.out.box (.head _)
            by_cases hc : r % s = 0
            · have HE := Lib.hid HZ.out
              rw [HW.out, ← cf_zero HQ.out HR.out HA.out HC.out (.inr hc)] at HE
              go_wp2_with fail
              refine (isZero_t kv cv _ Av _ (V4.out.at (.head _)) hc).mono ?_
              rintro e w5 ⟨rfl, e5⟩
              clear xp yp zp xr yr zr
              have V5 := Lib.hid (V4.out.go e5)
              clear e5 hc
              obtain ⟨xp, zp, yp⟩ := V5.out.box (.tail _ (.tail _ (.head _)))
              obtain ⟨xr, zr, yr⟩ := V5.out.box (.head _)
              go_wp2_with fail
              refine (cmp_num ku cu kv cv (p % q) (r % s) Au Av _ (V5.out.at (.tail _ (.tail _ (.head _)))) (V5.out.at (.head _))).mono ?_
              rintro e w6 ⟨rfl, e6⟩
              clear xp yp zp xr yr zr
              obtain ⟨hs1, hs2⟩ := sgn_bd (p % q - r % s)
              obtain ⟨x, hx⟩ : ∃ x, sgn (p % q - r % s) = x := ⟨_, rfl⟩
              rw [hx] at hs1 hs2 HE
              rw [hx]
              clear hx
              go_wp2_with fail
              go_ret
              first | (obtain rfl : z = x := (by have := HE.out; omega); exact ⟨rfl, (V5.out.go e6).2.2⟩) | (obtain rfl : z = -x := (by have := HE.out; omega); exact ⟨rfl, (V5.out.go e6).2.2⟩)
            · go_wp2_with fail
              refine (isZero_f kv cv _ Av _ (V4.out.at (.head _)) (by have := HC.out; omega)).mono ?_
              rintro e w5 ⟨rfl, e5⟩
              clear xp yp zp xr yr zr
              have V5 := Lib.hid (V4.out.go e5)
              clear e5
              obtain ⟨d1, d2', d3, d4, d5, d6⟩ := HD.out
              have l1 : w1.heap.size + 1 < w2.heap.size := by have := e2s; simp at this; omega
              have l5 : b5 < w1.heap.size := lb5
              have l6 : b6 < w1.heap.size := lb6
              have l7 : b7 < w1.heap.size := lb7
              have l8 : b8 < w1.heap.size := lb8
              have T0 := Lib.hid (V5.out.sub (lb' := [(b5, .slice A n c), (b6, .slice B m d), (b7, .slice A2 n2 c2), (b8, .slice B2 m2 d2), (w1.heap.size + 1, .slice Au ku cu), (w2.heap.size + 1, .slice Av kv cv)]) (by simp) (fun _ h => h))
              have T1 := Lib.hid (T0.out.put (g := b5) (.head _) B m d [(b5, .slice B m d), (b6, .slice B m d), (b7, .slice A2 n2 c2), (b8, .slice B2 m2 d2), (w1.heap.size + 1, .slice Au ku cu), (w2.heap.size + 1, .slice Av kv cv)]
                (List.forall_mem_cons.2 ⟨.inl rfl, List.forall_mem_cons.2 ⟨.inr ⟨.tail _ (.head _), by show ¬ b6 = b5; omega⟩, List.forall_mem_cons.2 ⟨.inr ⟨.tail _ (.tail _ (.head _)), by show ¬ b7 = b5; omega⟩, List.forall_mem_cons.2 ⟨.inr ⟨.tail _ (.tail _ (.tail _ (.head _))), by show ¬ b8 = b5; omega⟩, List.forall_mem_cons.2 ⟨.inr ⟨.tail _ (.tail _ (.tail _ (.tail _ (.head _)))), by show ¬ w1.heap.size + 1 = b5; omega⟩, List.forall_mem_cons.2 ⟨.inr ⟨.tail _ (.tail _ (.tail _ (.tail _ (.tail _ (.head _))))), by show ¬ w2.heap.size + 1 = b5; omega⟩, fun _ h => by simp at h⟩⟩⟩⟩⟩⟩))
              have T2 := Lib.hid (T1.out.put (g := b6) (.tail _ (.head _)) Au ku cu [(b5, .slice B m d), (b6, .slice Au ku cu), (b7, .slice A2 n2 c2), (b8, .slice B2 m2 d2), (w2.heap.size + 1, .slice Av kv cv)]
                (List.forall_mem_cons.2 ⟨.inr ⟨.head _, by show ¬ b5 = b6; omega⟩, List.forall_mem_cons.2 ⟨.inl rfl, List.forall_mem_cons.2 ⟨.inr ⟨.tail _ (.tail _ (.head _)), by show ¬ b7 = b6; omega⟩, List.forall_mem_cons.2 ⟨.inr ⟨.tail _ (.tail _ (.tail _ (.head _))), by show ¬ b8 = b6; omega⟩, List.forall_mem_cons.2 ⟨.inr ⟨.tail _ (.tail _ (.tail _ (.tail _ (.tail _ (.head _))))), by show ¬ w2.heap.size + 1 = b6; omega⟩, fun _ h => by simp at h⟩⟩⟩⟩⟩))
              have T3 := Lib.hid (T2.out.put (g := b7) (.tail _ (.tail _ (.head _))) B2 m2 d2 [(b5, .slice B m d), (b6, .slice Au ku cu), (b7, .slice B2 m2 d2), (b8, .slice B2 m2 d2), (w2.heap.size + 1, .slice Av kv cv)]
                (List.forall_mem_cons.2 ⟨.inr ⟨.head _, by show ¬ b5 = b7; omega⟩, List.forall_mem_cons.2 ⟨.inr ⟨.tail _ (.head _), by show ¬ b6 = b7; omega⟩, List.forall_mem_cons.2 ⟨.inl rfl, List.forall_mem_cons.2 ⟨.inr ⟨.tail _ (.tail _ (.tail _ (.head _))), by show ¬ b8 = b7; omega⟩, List.forall_mem_cons.2 ⟨.inr ⟨.tail _ (.tail _ (.tail _ (.tail _ (.head _)))), by show ¬ w2.heap.size + 1 = b7; omega⟩, fun _ h => by simp at h⟩⟩⟩⟩⟩))
              have T4 := Lib.hid (T3.out.put (g := b8) (.tail _ (.tail _ (.tail _ (.head _)))) Av kv cv [(b5, .slice B m d), (b6, .slice Au ku cu), (b7, .slice B2 m2 d2), (b8, .slice Av kv cv)]
                (List.forall_mem_cons.2 ⟨.inr ⟨.head _, by show ¬ b5 = b8; omega⟩, List.forall_mem_cons.2 ⟨.inr ⟨.tail _ (.head _), by show ¬ b6 = b8; omega⟩, List.forall_mem_cons.2 ⟨.inr ⟨.tail _ (.tail _ (.head _)), by show ¬ b7 = b8; omega⟩, List.forall_mem_cons.2 ⟨.inl rfl, fun _ h => by simp at h⟩⟩⟩⟩))
              clear d1 d2' d3 d4 d5 d6 l1 l5 l6 l7 l8 lb5 lb6 lb7 lb8
              obtain ⟨x5, z5, y5⟩ := T0.out.box (.head _)
              obtain ⟨x6, z6, y6⟩ := T0.out.box (.tail _ (.head _))
              obtain ⟨x7, z7, y7⟩ := T0.out.box (.tail _ (.tail _ (.head _)))
              obtain ⟨x8, z8, y8⟩ := T0.out.box (.tail _ (.tail _ (.tail _ (.head _))))
              obtain ⟨xp, zp, yp⟩ := T0.out.box (.tail _ (.tail _ (.tail _ (.tail _ (.head _)))))
              obtain ⟨xr, zr, yr⟩ := T0.out.box (.tail _ (.tail _ (.tail _ (.tail _ (.tail _ (.head _))))))
              have a6 := (T1.out.box (.tail _ (.head _))).1
              have a7 := (T1.out.box (.tail _ (.tail _ (.head _)))).1
              have a8 := (T1.out.box (.tail _ (.tail _ (.tail _ (.head _))))).1
              have ap := (T1.out.box (.tail _ (.tail _ (.tail _ (.tail _ (.head _)))))).1
              have ar := (T1.out.box (.tail _ (.tail _ (.tail _ (.tail _ (.tail _ (.head _))))))).1
              have c7 := (T2.out.box (.tail _ (.tail _ (.head _)))).1
              have c8 := (T2.out.box (.tail _ (.tail _ (.tail _ (.head _))))).1
              have cr := (T2.out.box (.tail _ (.tail _ (.tail _ (.tail _ (.head _)))))).1
              have g8 := (T3.out.box (.tail _ (.tail _ (.tail _ (.head _))))).1
              have gr := (T3.out.box (.tail _ (.tail _ (.tail _ (.tail _ (.head _)))))).1
              have PA := Lib.hid (show 0 < p % q by have := HA.out; omega)
              have PC := Lib.hid (show 0 < r % s by have := HC.out; omega)
              clear hc ha
              go_wp2_with fail
              clear V1 U1 V2 U2 V3 V4 V5 e2s HD
              go_region
              all_goals clear x5 z5 y5 x6 z6 y6 x7 z7 y7 x8 z8 y8 xp zp yp xr zr yr a6 a7 a8 ap ar c7 c8 cr g8 gr
              have T5 := Lib.hid ((T4.out.go (Below.refl _ _).drew).sub (ln' := [(.slice B m d, q), (.slice Au ku cu, p % q), (.slice B2 m2 d2, s), (.slice Av kv cv, r % s)]) (fun _ h => h) (by simp))
              have HM1 := Lib.hid (boxN_is (B0.out.box (.tail _ (.head _))).1 (B0.out.at (.tail _ (.head _))))
              have HM2 := Lib.hid (boxN_is (T5.out.box (.tail _ (.head _))).1 (T5.out.at (.tail _ (.head _))))
              have HN := Lib.hid (show (p % q).toNat < q.toNat by have := HL.out; have := PA.out; omega)
              have HE := Lib.hid HZ.out
              rw [HW.out, cf_flip] at HE
              clear T0 T1 T2 T3 T4
              go_wp2_with fail
              go_roundw
              case rel => first | exact ⟨1, rfl, B, Au, B2, Av, m, d, ku, cu, m2, d2, kv, cv, q, p % q, s, r % s, .inl rfl, PA.out, PC.out, by have := HE.out; omega, T5.out⟩ | exact ⟨-1, rfl, B, Au, B2, Av, m, d, ku, cu, m2, d2, kv, cv, q, p % q, s, r % s, .inr rfl, PA.out, PC.out, by have := HE.out; omega, T5.out⟩
              case measure => rw [HM1.out, HM2.out]; exact HN.out
        · have hv := cf_whole HQ.out HR.out hw
          obtain ⟨x, hx, hx2⟩ : ∃ x, sgn (p / q - r / s) = x ∧ (x = 1 ∨ x = -1) := ⟨_, rfl, by
            by_cases h1 : p / q < r / s
            · exact .inr (sgn_lt (by omega))
            · exact .inl (sgn_gt (by omega))⟩
          rw [hx]
          have HE := Lib.hid HZ.out
          rw [← hv, hx] at HE
          clear hw hv hx
          rcases hx2 with rfl | rfl
          all_goals
            go_wp2_with fail
            go_ret
            exact ⟨by rw [← HE.out]; rfl, V3.out.2.2⟩
end Go.Proofs.YtkfkefgkepoaaaaGreatDoor
/- Contracts of order and Cmp of fractions, both sides. -/
namespace Go.Proofs.YtkfkefgkepoaaaaGreatDoor
open Go.RowKit
set_option linter.unusedVariables false
set_option maxRecDepth 100000

theorem cf_turn {p q r s : Int} (h : p / q = r / s) : sgn (s * (p % q) - q * (r % s)) = sgn (p * s - r * q) := by
  rw [cf_rest h, Int.mul_comm s, Int.mul_comm q]
end Go.Proofs.YtkfkefgkepoaaaaGreatDoor
/- Contracts of Cmp of fractions, both sides; that it is a total order. -/
namespace Go.Proofs.YtkfkefgkepoaaaaGreatDoor
open Go.RowKit
set_option linter.unusedVariables false
set_option maxRecDepth 100000

/-- The answer of Cmp on valid fractions. -/
def cmpV (s s2 : Bool) (p q r t : Int) : Int := if s = true then (if s2 = true then sgn (r * q - p * t) else -1) else if s2 = true then 1 else sgn (p * t - r * q)
/-- The answer of Cmp. -/
def cmpR (s s2 : Bool) (L M L2 M2 : List Int) : Int := if vldF s L M = true ∧ vldF s2 L2 M2 = true then cmpV s s2 (val L) (val M) (val L2) (val M2) else 0
theorem cmpR_ok {s s2 : Bool} {L M L2 M2 : List Int} (h : vldF s L M = true) (h2 : vldF s2 L2 M2 = true) : cmpR s s2 L M L2 M2 = cmpV s s2 (val L) (val M) (val L2) (val M2) := if_pos ⟨h, h2⟩
theorem cmpR_no {s s2 : Bool} {L M L2 M2 : List Int} (h : ¬ (vldF s L M = true ∧ vldF s2 L2 M2 = true)) : cmpR s s2 L M L2 M2 = 0 := if_neg h
set_option maxHeartbeats 4000000 in
theorem fcmp_any (s s2 : Bool) (L M L2 M2 : List Int) (n c m d n2 c2 m2 d2 : Nat) (A B A2 B2 : Option Addr) (W : World) (hn : L.length = n) (hm : M.length = m) (hnc : n ≤ c) (hmd : m ≤ d) (hc63 : c ≤ maxLen) (hd63 : d ≤ maxLen) (hA : IntsIn W A L) (hB : IntsIn W B M) (hn2 : L2.length = n2) (hm2 : M2.length = m2) (hnc2 : n2 ≤ c2) (hmd2 : m2 ≤ d2) (hc632 : c2 ≤ maxLen) (hd632 : d2 ≤ maxLen) (hA2 : IntsIn W A2 L2) (hB2 : IntsIn W B2 M2) :
    Calls Tryz.prog 17 #[.agg #[.bool s, .slice A n c, .slice B m d], .agg #[.bool s2, .slice A2 n2 c2, .slice B2 m2 d2]] W fun e w' => e = .returned (.int .i64 (cmpR s s2 L M L2 M2)) ∧ Below W.heap.size W w' := by
  have VW := ((LiveA.start W).newF (.bool s) (.slice A n c) (.slice B m d) 32).newF (.bool s2) (.slice A2 n2 c2) (.slice B2 m2 d2) 32
  rw [show (W.alloc (.cells #[.bool s, .slice A n c, .slice B m d] 32)).heap.size = W.heap.size + 1 by simp] at VW
  have V0 := Lib.hid VW
  have HA := Lib.hid hA
  have HB := Lib.hid hB
  have HA2 := Lib.hid hA2
  have HB2 := Lib.hid hB2
  have HN := Lib.hid hn
  have HM := Lib.hid hm
  have HN2 := Lib.hid hn2
  have HM2 := Lib.hid hm2
  have HNL := Lib.hid (fun (w : World) (h : IntsIn w A L) (v : vldB L = true) => num_mk hn hnc hc63 h v)
  have HNM := Lib.hid (fun (w : World) (h : IntsIn w B M) (v : vldB M = true) => num_mk hm hmd hd63 h v)
  have HNL2 := Lib.hid (fun (w : World) (h : IntsIn w A2 L2) (v : vldB L2 = true) => num_mk hn2 hnc2 hc632 h v)
  have HNM2 := Lib.hid (fun (w : World) (h : IntsIn w B2 M2) (v : vldB M2 = true) => num_mk hm2 hmd2 hd632 h v)
  clear VW hA hB hA2 hB2 hn hm hn2 hm2
  by_cases h1 : vldF s L M = true
  · by_cases h2 : vldF s2 L2 M2 = true
    · have HR := Lib.hid (cmpR_ok h1 h2)
      have Q1 := Lib.hid (vldF_pos h1)
      have Q2 := Lib.hid (vldF_pos h2)
      have H1 := Lib.hid h1
      have H2 := Lib.hid h2
      clear h1 h2
      cases s <;> cases s2
      · go_enter Tryz.func17, Tryz.ntmps17
        obtain ⟨x0_f2, y0_f2⟩ := V0.out.box (.tail _ (.tail _ (.tail _ (.head _))))
        obtain ⟨x0_f1, y0_f1⟩ := V0.out.box (.tail _ (.tail _ (.tail _ (.tail _ (.head _)))))
        obtain ⟨x0_f0, y0_f0⟩ := V0.out.box (.tail _ (.tail _ (.tail _ (.tail _ (.tail _ (.head _))))))
        go_wp2_with fail
        refine (fvalid_any false L M n c m d A B _ HN.out HM.out hnc hmd hc63 hd63 (HA.out.below V0.out.2.2) (HB.out.below V0.out.2.2)).mono ?_
        rintro e w1 ⟨rfl, b1⟩
        clear x0_f2 y0_f2 x0_f1 y0_f1 x0_f0 y0_f0
        have V1 := Lib.hid (V0.out.go b1)
        clear b1
        rw [H1.out]
        obtain ⟨x1_g2, y1_g2⟩ := V1.out.box (.head _)
        obtain ⟨x1_g1, y1_g1⟩ := V1.out.box (.tail _ (.head _))
        obtain ⟨x1_g0, y1_g0⟩ := V1.out.box (.tail _ (.tail _ (.head _)))
        go_wp2_with fail
        refine (fvalid_any false L2 M2 n2 c2 m2 d2 A2 B2 _ HN2.out HM2.out hnc2 hmd2 hc632 hd632 (HA2.out.below V1.out.2.2) (HB2.out.below V1.out.2.2)).mono ?_
        rintro e w2 ⟨rfl, b2⟩
        clear x1_g2 y1_g2 x1_g1 y1_g1 x1_g0 y1_g0
        have V2 := Lib.hid (V1.out.go b2)
        clear b2
        rw [H2.out]
        obtain ⟨x2_g2, y2_g2⟩ := V2.out.box (.head _)
        obtain ⟨x2_g1, y2_g1⟩ := V2.out.box (.tail _ (.head _))
        obtain ⟨x2_g0, y2_g0⟩ := V2.out.box (.tail _ (.tail _ (.head _)))
        obtain ⟨x2_f2, y2_f2⟩ := V2.out.box (.tail _ (.tail _ (.tail _ (.head _))))
        obtain ⟨x2_f1, y2_f1⟩ := V2.out.box (.tail _ (.tail _ (.tail _ (.tail _ (.head _)))))
        obtain ⟨x2_f0, y2_f0⟩ := V2.out.box (.tail _ (.tail _ (.tail _ (.tail _ (.tail _ (.head _))))))
        go_wp2_with fail
        refine (compare_num false false n c m d n2 c2 m2 d2 (val L) (val M) (val L2) (val M2) A B A2 B2 _ (HNL.out _ (HA.out.below V2.out.2.2) Q1.out.1) (HNM.out _ (HB.out.below V2.out.2.2) Q1.out.2.1) (HNL2.out _ (HA2.out.below V2.out.2.2) Q2.out.1) (HNM2.out _ (HB2.out.below V2.out.2.2) Q2.out.2.1) Q1.out.2.2.1 Q2.out.2.2.1).mono ?_
        rintro e w3 ⟨rfl, b3⟩
        clear x2_g2 y2_g2 x2_g1 y2_g1 x2_g0 y2_g0 x2_f2 y2_f2 x2_f1 y2_f1 x2_f0 y2_f0
        have V3 := Lib.hid (V2.out.go b3)
        clear b3
        go_wp2_with fail
        go_ret
        exact ⟨by rw [HR.out]; rfl, V3.out.2.2⟩
      · go_enter Tryz.func17, Tryz.ntmps17
        obtain ⟨x0_f2, y0_f2⟩ := V0.out.box (.tail _ (.tail _ (.tail _ (.head _))))
        obtain ⟨x0_f1, y0_f1⟩ := V0.out.box (.tail _ (.tail _ (.tail _ (.tail _ (.head _)))))
        obtain ⟨x0_f0, y0_f0⟩ := V0.out.box (.tail _ (.tail _ (.tail _ (.tail _ (.tail _ (.head _))))))
        go_wp2_with fail
        refine (fvalid_any false L M n c m d A B _ HN.out HM.out hnc hmd hc63 hd63 (HA.out.below V0.out.2.2) (HB.out.below V0.out.2.2)).mono ?_
        rintro e w1 ⟨rfl, b1⟩
        clear x0_f2 y0_f2 x0_f1 y0_f1 x0_f0 y0_f0
        have V1 := Lib.hid (V0.out.go b1)
        clear b1
        rw [H1.out]
        obtain ⟨x1_g2, y1_g2⟩ := V1.out.box (.head _)
        obtain ⟨x1_g1, y1_g1⟩ := V1.out.box (.tail _ (.head _))
        obtain ⟨x1_g0, y1_g0⟩ := V1.out.box (.tail _ (.tail _ (.head _)))
        go_wp2_with fail
        refine (fvalid_any true L2 M2 n2 c2 m2 d2 A2 B2 _ HN2.out HM2.out hnc2 hmd2 hc632 hd632 (HA2.out.below V1.out.2.2) (HB2.out.below V1.out.2.2)).mono ?_
        rintro e w2 ⟨rfl, b2⟩
        clear x1_g2 y1_g2 x1_g1 y1_g1 x1_g0 y1_g0
        have V2 := Lib.hid (V1.out.go b2)
        clear b2
        rw [H2.out]
        obtain ⟨x2_g2, y2_g2⟩ := V2.out.box (.head _)
        obtain ⟨x2_g1, y2_g1⟩ := V2.out.box (.tail _ (.head _))
        obtain ⟨x2_g0, y2_g0⟩ := V2.out.box (.tail _ (.tail _ (.head _)))
        obtain ⟨x2_f2, y2_f2⟩ := V2.out.box (.tail _ (.tail _ (.tail _ (.head _))))
        obtain ⟨x2_f1, y2_f1⟩ := V2.out.box (.tail _ (.tail _ (.tail _ (.tail _ (.head _)))))
        obtain ⟨x2_f0, y2_f0⟩ := V2.out.box (.tail _ (.tail _ (.tail _ (.tail _ (.tail _ (.head _))))))
        go_wp2_with fail
        go_ret
        exact ⟨by rw [HR.out]; rfl, V2.out.2.2⟩
      · go_enter Tryz.func17, Tryz.ntmps17
        obtain ⟨x0_f2, y0_f2⟩ := V0.out.box (.tail _ (.tail _ (.tail _ (.head _))))
        obtain ⟨x0_f1, y0_f1⟩ := V0.out.box (.tail _ (.tail _ (.tail _ (.tail _ (.head _)))))
        obtain ⟨x0_f0, y0_f0⟩ := V0.out.box (.tail _ (.tail _ (.tail _ (.tail _ (.tail _ (.head _))))))
        go_wp2_with fail
        refine (fvalid_any true L M n c m d A B _ HN.out HM.out hnc hmd hc63 hd63 (HA.out.below V0.out.2.2) (HB.out.below V0.out.2.2)).mono ?_
        rintro e w1 ⟨rfl, b1⟩
        clear x0_f2 y0_f2 x0_f1 y0_f1 x0_f0 y0_f0
        have V1 := Lib.hid (V0.out.go b1)
        clear b1
        rw [H1.out]
        obtain ⟨x1_g2, y1_g2⟩ := V1.out.box (.head _)
        obtain ⟨x1_g1, y1_g1⟩ := V1.out.box (.tail _ (.head _))
        obtain ⟨x1_g0, y1_g0⟩ := V1.out.box (.tail _ (.tail _ (.head _)))
        go_wp2_with fail
        refine (fvalid_any false L2 M2 n2 c2 m2 d2 A2 B2 _ HN2.out HM2.out hnc2 hmd2 hc632 hd632 (HA2.out.below V1.out.2.2) (HB2.out.below V1.out.2.2)).mono ?_
        rintro e w2 ⟨rfl, b2⟩
        clear x1_g2 y1_g2 x1_g1 y1_g1 x1_g0 y1_g0
        have V2 := Lib.hid (V1.out.go b2)
        clear b2
        rw [H2.out]
        obtain ⟨x2_g2, y2_g2⟩ := V2.out.box (.head _)
        obtain ⟨x2_g1, y2_g1⟩ := V2.out.box (.tail _ (.head _))
        obtain ⟨x2_g0, y2_g0⟩ := V2.out.box (.tail _ (.tail _ (.head _)))
        obtain ⟨x2_f2, y2_f2⟩ := V2.out.box (.tail _ (.tail _ (.tail _ (.head _))))
        obtain ⟨x2_f1, y2_f1⟩ := V2.out.box (.tail _ (.tail _ (.tail _ (.tail _ (.head _)))))
        obtain ⟨x2_f0, y2_f0⟩ := V2.out.box (.tail _ (.tail _ (.tail _ (.tail _ (.tail _ (.head _))))))
        go_wp2_with fail
        go_ret
        exact ⟨by rw [HR.out]; rfl, V2.out.2.2⟩
      · go_enter Tryz.func17, Tryz.ntmps17
        obtain ⟨x0_f2, y0_f2⟩ := V0.out.box (.tail _ (.tail _ (.tail _ (.head _))))
        obtain ⟨x0_f1, y0_f1⟩ := V0.out.box (.tail _ (.tail _ (.tail _ (.tail _ (.head _)))))
        obtain ⟨x0_f0, y0_f0⟩ := V0.out.box (.tail _ (.tail _ (.tail _ (.tail _ (.tail _ (.head _))))))
        go_wp2_with fail
        refine (fvalid_any true L M n c m d A B _ HN.out HM.out hnc hmd hc63 hd63 (HA.out.below V0.out.2.2) (HB.out.below V0.out.2.2)).mono ?_
        rintro e w1 ⟨rfl, b1⟩
        clear x0_f2 y0_f2 x0_f1 y0_f1 x0_f0 y0_f0
        have V1 := Lib.hid (V0.out.go b1)
        clear b1
        rw [H1.out]
        obtain ⟨x1_g2, y1_g2⟩ := V1.out.box (.head _)
        obtain ⟨x1_g1, y1_g1⟩ := V1.out.box (.tail _ (.head _))
        obtain ⟨x1_g0, y1_g0⟩ := V1.out.box (.tail _ (.tail _ (.head _)))
        go_wp2_with fail
        refine (fvalid_any true L2 M2 n2 c2 m2 d2 A2 B2 _ HN2.out HM2.out hnc2 hmd2 hc632 hd632 (HA2.out.below V1.out.2.2) (HB2.out.below V1.out.2.2)).mono ?_
        rintro e w2 ⟨rfl, b2⟩
        clear x1_g2 y1_g2 x1_g1 y1_g1 x1_g0 y1_g0
        have V2 := Lib.hid (V1.out.go b2)
        clear b2
        rw [H2.out]
        obtain ⟨x2_g2, y2_g2⟩ := V2.out.box (.head _)
        obtain ⟨x2_g1, y2_g1⟩ := V2.out.box (.tail _ (.head _))
        obtain ⟨x2_g0, y2_g0⟩ := V2.out.box (.tail _ (.tail _ (.head _)))
        obtain ⟨x2_f2, y2_f2⟩ := V2.out.box (.tail _ (.tail _ (.tail _ (.head _))))
        obtain ⟨x2_f1, y2_f1⟩ := V2.out.box (.tail _ (.tail _ (.tail _ (.tail _ (.head _)))))
        obtain ⟨x2_f0, y2_f0⟩ := V2.out.box (.tail _ (.tail _ (.tail _ (.tail _ (.tail _ (.head _))))))
        go_wp2_with fail
        refine (compare_num true true n2 c2 m2 d2 n c m d (val L2) (val M2) (val L) (val M) A2 B2 A B _ (HNL2.out _ (HA2.out.below V2.out.2.2) Q2.out.1) (HNM2.out _ (HB2.out.below V2.out.2.2) Q2.out.2.1) (HNL.out _ (HA.out.below V2.out.2.2) Q1.out.1) (HNM.out _ (HB.out.below V2.out.2.2) Q1.out.2.1) Q2.out.2.2.1 Q1.out.2.2.1).mono ?_
        rintro e w3 ⟨rfl, b3⟩
        clear x2_g2 y2_g2 x2_g1 y2_g1 x2_g0 y2_g0 x2_f2 y2_f2 x2_f1 y2_f1 x2_f0 y2_f0
        have V3 := Lib.hid (V2.out.go b3)
        clear b3
        go_wp2_with fail
        go_ret
        exact ⟨by rw [HR.out]; rfl, V3.out.2.2⟩
    · have HR := Lib.hid (cmpR_no (fun h : vldF s L M = true ∧ vldF s2 L2 M2 = true => h2 h.2))
      have H1 := Lib.hid h1
      have H2 := Lib.hid (show vldF s2 L2 M2 = false by simpa using h2)
      clear h1 h2
      go_enter Tryz.func17, Tryz.ntmps17
      obtain ⟨x0_f2, y0_f2⟩ := V0.out.box (.tail _ (.tail _ (.tail _ (.head _))))
      obtain ⟨x0_f1, y0_f1⟩ := V0.out.box (.tail _ (.tail _ (.tail _ (.tail _ (.head _)))))
      obtain ⟨x0_f0, y0_f0⟩ := V0.out.box (.tail _ (.tail _ (.tail _ (.tail _ (.tail _ (.head _))))))
      go_wp2_with fail
      refine (fvalid_any s L M n c m d A B _ HN.out HM.out hnc hmd hc63 hd63 (HA.out.below V0.out.2.2) (HB.out.below V0.out.2.2)).mono ?_
      rintro e w1 ⟨rfl, b1⟩
      clear x0_f2 y0_f2 x0_f1 y0_f1 x0_f0 y0_f0
      have V1 := Lib.hid (V0.out.go b1)
      clear b1
      rw [H1.out]
      obtain ⟨x1_g2, y1_g2⟩ := V1.out.box (.head _)
      obtain ⟨x1_g1, y1_g1⟩ := V1.out.box (.tail _ (.head _))
      obtain ⟨x1_g0, y1_g0⟩ := V1.out.box (.tail _ (.tail _ (.head _)))
      go_wp2_with fail
      refine (fvalid_any s2 L2 M2 n2 c2 m2 d2 A2 B2 _ HN2.out HM2.out hnc2 hmd2 hc632 hd632 (HA2.out.below V1.out.2.2) (HB2.out.below V1.out.2.2)).mono ?_
      rintro e w2 ⟨rfl, b2⟩
      clear x1_g2 y1_g2 x1_g1 y1_g1 x1_g0 y1_g0
      have V2 := Lib.hid (V1.out.go b2)
      clear b2
      rw [H2.out]
      go_wp2_with fail
      go_ret
      exact ⟨by rw [HR.out]; rfl, V2.out.2.2⟩
  · have HR := Lib.hid (cmpR_no (fun h : vldF s L M = true ∧ vldF s2 L2 M2 = true => h1 h.1))
    have H1 := Lib.hid (show vldF s L M = false by simpa using h1)
    clear h1
    go_enter Tryz.func17, Tryz.ntmps17
    obtain ⟨x0_f2, y0_f2⟩ := V0.out.box (.tail _ (.tail _ (.tail _ (.head _))))
    obtain ⟨x0_f1, y0_f1⟩ := V0.out.box (.tail _ (.tail _ (.tail _ (.tail _ (.head _)))))
    obtain ⟨x0_f0, y0_f0⟩ := V0.out.box (.tail _ (.tail _ (.tail _ (.tail _ (.tail _ (.head _))))))
    go_wp2_with fail
    refine (fvalid_any s L M n c m d A B _ HN.out HM.out hnc hmd hc63 hd63 (HA.out.below V0.out.2.2) (HB.out.below V0.out.2.2)).mono ?_
    rintro e w1 ⟨rfl, b1⟩
    clear x0_f2 y0_f2 x0_f1 y0_f1 x0_f0 y0_f0
    have V1 := Lib.hid (V0.out.go b1)
    clear b1
    rw [H1.out]
    go_wp2_with fail
    go_ret
    exact ⟨by rw [HR.out]; rfl, V1.out.2.2⟩
set_option maxHeartbeats 4000000 in
theorem rfzero_any (W : World) : Calls Tryz.prog 21 #[] W (FrPost false 0 1 W) := by
  have K0 := Lib.hid (keptF_new W)
  have B0 := Lib.hid (one_new (w := W) (o := .cells #[.bool false, .slice none 0 0, .slice none 0 0] 32))
  go_enter Tryz.func21, Tryz.ntmps21
  go_wp2_with fail
  refine (rSmall_num 1 _ (by omega) (by omega)).mono ?_
  rintro e w1 ⟨A, c, k, rfl, n1, b1⟩
  have N1 := Lib.hid n1
  have B1 := Lib.hid (btwo B0.out b1)
  have K1 := Lib.hid (K0.out.go b1)
  clear n1 b1
  obtain ⟨k0, k1, k2, k3, k4, k5, k6⟩ := K1.out.facts
  go_wp2_with fail
  refine bodyPost_ret (v := .agg #[.bool false, .slice none 0 0, .slice A k c]) ?_ rfl ?_
  · simp [results, Tryz.results21, go_sem, k0, k1, k2]
  · exact fr_store' K1.out (Nat.le_refl _) (num_nil _) N1.out B1.out
end Go.Proofs.YtkfkefgkepoaaaaGreatDoor
