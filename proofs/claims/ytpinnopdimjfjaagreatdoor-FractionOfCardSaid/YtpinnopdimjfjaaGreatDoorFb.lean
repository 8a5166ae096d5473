/- Contracts of lowest and Of. -/
import Derived.Test.YtpinnopdimjfjaaGreatDoorFa
import Derived.Test.YtpinnopdimjfjaaGreatDoorNReg
import Derived.StillTailTactics
namespace Go.Proofs.YtpinnopdimjfjaaGreatDoor
open Go.RowKit
set_option linter.unusedVariables false
set_option maxRecDepth 100000

set_option maxHeartbeats 400000 in
theorem isZero_len (n c : Nat) (A : Option Addr) (w : World) (hn : n ≤ maxLen) :
    Calls Tryz.prog 46 #[.agg #[.slice A n c]] w fun e w' => e = .returned (.bool (decide (n = 0))) ∧ Below w.heap.size w w' := by
  have E := Lib.hid (show ((n : Int) == 0) = decide (n = 0) by rw [Bool.eq_iff_iff]; simp)
  unfold maxLen at hn
  go_enter Tryz.func46, Tryz.ntmps46
  go_wp2
  go_ret
  exact ⟨ret_bool E.out.symm, (Below.refl _ _).alloc (Nat.le_refl _) _⟩
/-- A call that returns a fraction. -/
def FrPost (s : Bool) (p q : Int) (W : World) (e : Ending) (w' : World) : Prop :=
  ∃ A c k B d l, e = .returned (.agg #[.bool s, .slice A k c, .slice B l d]) ∧ NumAt w' (.slice A k c) p ∧ NumAt w' (.slice B l d) q ∧ Below W.heap.size W w'
/-- The block of a fraction that a function returns, as it is at the start. -/
def KeptF (g : Nat) (w : World) : Prop := w.heap[g]? = some (.cells #[.bool false, .slice none 0 0, .slice none 0 0] 30 (0, 0))
theorem KeptF.facts {g : Nat} {w : World} (h : KeptF g w) : w.cell? ⟨g, 0, none⟩ = some (.bool false) ∧ w.cell? ⟨g, 1, none⟩ = some (.slice none 0 0) ∧ w.cell? ⟨g, 2, none⟩ = some (.slice none 0 0) ∧ w.frozen? ⟨g, 0, none⟩ = false ∧ w.frozen? ⟨g, 1, none⟩ = false ∧ w.frozen? ⟨g, 2, none⟩ = false ∧ g < w.heap.size := by
  unfold KeptF at h
  refine ⟨?_, ?_, ?_, by simp [World.frozen?, h], by simp [World.frozen?, h], by simp [World.frozen?, h], (Array.getElem?_eq_some_iff.1 h).1⟩
  · rw [cell_of_row w _ 0 _ _ _ h]; rfl
  · rw [cell_of_row w _ 1 _ _ _ h]; rfl
  · rw [cell_of_row w _ 2 _ _ _ h]; rfl
theorem KeptF.go {g : Nat} {w w' : World} (h : KeptF g w) (hb : Below w.heap.size w w') : KeptF g w' := by
  unfold KeptF at *
  rw [hb.block _ (Array.getElem?_eq_some_iff.1 h).1]; exact h
theorem keptF_new (w : World) : KeptF w.heap.size (w.alloc (.cells #[.bool false, .slice none 0 0, .slice none 0 0] 30)) := heap_alloc_new w _
theorem IntsIn.storeF {w : World} {A : Option Addr} {L : List Int} {g : Nat} {u v x : Value} (h : IntsIn w A L) (hg : KeptF g w) : IntsIn (((w.setCell ⟨g, 0, none⟩ u).setCell ⟨g, 1, none⟩ v).setCell ⟨g, 2, none⟩ x) A L := by
  intro h0
  obtain ⟨b, off, rfl, hlt, hc⟩ := h h0
  have hb : ¬ b = g := by
    rintro rfl
    have h1 := hc 0 h0
    rw [cell_of_row w _ _ _ _ _ hg] at h1
    match off, h1 with
    | 0, h1 => simp at h1
    | 1, h1 => simp at h1
    | 2, h1 => simp at h1
    | k + 3, h1 => simp at h1
  refine ⟨b, off, rfl, by simpa [World.setCell] using hlt, fun j hj => ?_⟩
  have ap : ∀ i : Nat, (⟨b, off + j, none⟩ : Addr) ≠ ⟨g, i, none⟩ := fun i e => by injection e with e1; exact hb e1
  rw [World.cell?_setCell_other _ _ _ _ (by first | exact ap _ | exact (ap _).symm), World.cell?_setCell_other _ _ _ _ (by first | exact ap _ | exact (ap _).symm), World.cell?_setCell_other _ _ _ _ (by first | exact ap _ | exact (ap _).symm)]
  exact hc j hj
theorem NumAt.storeF {w : World} {y : Value} {n : Int} {g : Nat} {u v x : Value} (h : NumAt w y n) (hg : KeptF g w) : NumAt (((w.setCell ⟨g, 0, none⟩ u).setCell ⟨g, 1, none⟩ v).setCell ⟨g, 2, none⟩ x) y n := by
  obtain ⟨h0, A, c, e, hi, h1, h2, h3⟩ := h
  exact ⟨h0, A, c, e, hi.storeF hg, h1, h2, h3⟩
theorem fr_store {W w : World} {g : Nat} {s : Bool} {p q : Int} {A B : Option Addr} {k c l d : Nat} (hg : KeptF g w) (hW : W.heap.size ≤ g) (hp : NumAt w (.slice A k c) p) (hq : NumAt w (.slice B l d) q) (hb : Below W.heap.size W w) (n : Nat) :
    FrPost s p q W (.returned (.agg #[.bool s, .slice A k c, .slice B l d])) ((((w.setCell ⟨g, 0, none⟩ (.bool s)).setCell ⟨g, 1, none⟩ (.slice A k c)).setCell ⟨g, 2, none⟩ (.slice B l d)).drewN n) := by
  refine ⟨A, c, k, B, d, l, rfl, (hp.storeF hg).below (bdr (Below.refl _ _) n), (hq.storeF hg).below (bdr (Below.refl _ _) n), bdr ?_ n⟩
  exact ((hb.setCell (p := ⟨g, 0, none⟩) hW _).setCell (p := ⟨g, 1, none⟩) hW _).setCell (p := ⟨g, 2, none⟩) hW _
theorem fr_store' {W w : World} {g : Nat} {s : Bool} {p q : Int} {A B : Option Addr} {k c l d : Nat} (hg : KeptF g w) (hW : W.heap.size ≤ g) (hp : NumAt w (.slice A k c) p) (hq : NumAt w (.slice B l d) q) (hb : Below W.heap.size W w) :
    FrPost s p q W (.returned (.agg #[.bool s, .slice A k c, .slice B l d])) (((w.setCell ⟨g, 0, none⟩ (.bool s)).setCell ⟨g, 1, none⟩ (.slice A k c)).setCell ⟨g, 2, none⟩ (.slice B l d)) := by
  refine ⟨A, c, k, B, d, l, rfl, hp.storeF hg, hq.storeF hg, ?_⟩
  exact ((hb.setCell (p := ⟨g, 0, none⟩) hW _).setCell (p := ⟨g, 1, none⟩) hW _).setCell (p := ⟨g, 2, none⟩) hW _
theorem drew_eq (w : World) : w.drew = w.drewN 1 := rfl
set_option maxHeartbeats 4000000 in
theorem lowest_num (s : Bool) (n c m d : Nat) (x y : Int) (A B : Option Addr) (W : World) (hx : NumAt W (.slice A n c) x) (hy : NumAt W (.slice B m d) y) (hg : 0 < gcdI x y) :
    Calls Tryz.prog 42 #[.bool s, .agg #[.slice A n c], .agg #[.slice B m d]] W (FrPost (s && !decide (x / gcdI x y = 0)) (x / gcdI x y) (y / gcdI x y) W) := by
  obtain ⟨E, hE⟩ : ∃ E : World, E = ((W.alloc (.cells #[.slice A n c] 24)).alloc (.cells #[.slice B m d] 24)).alloc (.cells #[.bool false, .slice none 0 0, .slice none 0 0] 30) := ⟨_, rfl⟩
  have BE : Below W.heap.size W E := by rw [hE]; exact btwo two_box one_new
  have KE : KeptF (W.heap.size + 1 + 1) E := by
    have := keptF_new ((W.alloc (.cells #[.slice A n c] 24)).alloc (.cells #[.slice B m d] 24))
    rw [← hE] at this
    simpa using this
  have VW := (((LiveA.start W).num hy).num hx).new2 (.slice A n c) (.slice B m d) 24
  have V0 := Lib.hid (show LiveA E [(⟨W.heap.size + 1, 0, none⟩, .slice B m d), (⟨W.heap.size, 0, none⟩, .slice A n c)] [(.slice A n c, x), (.slice B m d, y)] E by
    have h := VW.go (one_new (o := .cells #[.bool false, .slice none 0 0, .slice none 0 0] 30))
    rw [← hE] at h
    exact ⟨h.1, h.2.1, Below.refl _ _⟩)
  have HKE := Lib.hid KE
  have HBE := Lib.hid BE
  clear VW KE BE
  have PX := hx.1
  have PY := hy.1
  clear hx hy
  subst hE
  go_enter Tryz.func42, Tryz.ntmps42
  go_wp2_with fail
  refine (gcd_num n c m d _ _ A B _ (V0.out.at (.head _)) (V0.out.at (.tail _ (.head _)))).mono ?_
  rintro e w1 ⟨Ag, cg, kg, rfl, n1, b1⟩
  have U1 := Lib.hid ((V0.out.go b1).num n1)
  clear n1 b1
  obtain ⟨x1_x, y1_x⟩ := U1.out.box (.tail _ (.head _))
  obtain ⟨x1_y, y1_y⟩ := U1.out.box (.head _)
  have V1 := Lib.hid (U1.out.new (.slice Ag kg cg) 24)
  go_wp2_with fail
  refine (div_num n c kg cg _ _ A Ag _ (V1.out.at (.tail _ (.head _))) (V1.out.at (.head _)) hg).mono ?_
  rintro e w2 ⟨Ap, cp, kp, Au, cu, ku, rfl, n2, m2, b2⟩
  clear x1_x y1_x x1_y y1_y
  have U2 := Lib.hid (((V1.out.go b2).num n2).num m2)
  clear n2 m2 b2
  obtain ⟨x2_x, y2_x⟩ := U2.out.box (.tail _ (.tail _ (.head _)))
  obtain ⟨x2_y, y2_y⟩ := U2.out.box (.tail _ (.head _))
  obtain ⟨x2_g, y2_g⟩ := U2.out.box (.head _)
  have V2 := Lib.hid (U2.out.new2 (.slice Ap kp cp) (.slice Au ku cu) 24)
  go_wp2_with fail
  refine (div_num m d kg cg _ _ B Ag _ (V2.out.at (.tail _ (.tail _ (.tail _ (.tail _ (.head _)))))) (V2.out.at (.tail _ (.tail _ (.head _)))) hg).mono ?_
  rintro e w3 ⟨Aq, cq, kq, Av, cv, kv, rfl, n3, m3, b3⟩
  clear x2_x y2_x x2_y y2_y x2_g y2_g
  have U3 := Lib.hid (((V2.out.go b3).num n3).num m3)
  clear n3 m3 b3
  obtain ⟨x3_p, y3_p⟩ := U3.out.box (.tail _ (.head _))
  obtain ⟨x3_x, y3_x⟩ := U3.out.box (.tail _ (.tail _ (.tail _ (.tail _ (.head _)))))
  have V3 := Lib.hid (U3.out.new2 (.slice Aq kq cq) (.slice Av kv cv) 24)
  obtain ⟨wz, hwz⟩ : ∃ wz : World, wz = (w3.alloc (.cells #[.slice Aq kq cq] 24)).alloc (.cells #[.slice Av kv cv] 24) := ⟨_, rfl⟩
  have VZ := V3.out
  rw [← hwz] at VZ
  have HVZ := Lib.hid VZ
  have HKR := Lib.hid (HKE.out.go VZ.2.2)
  clear x3_p y3_p x3_x y3_x
  go_upto_region 4 with fail
  rw [← hwz]
  clear hwz VZ
  obtain ⟨x3_p, y3_p⟩ := HVZ.out.box (.tail _ (.tail _ (.tail _ (.head _))))
  obtain ⟨x3_q, y3_q⟩ := HVZ.out.box (.tail _ (.head _))
  obtain ⟨k0, k1, k2, k3, k4, k5, k6⟩ := HKR.out.facts
  have NP := Lib.hid (HVZ.out.at (.tail _ (.tail _ (.tail _ (.head _)))))
  have NQ := Lib.hid (HVZ.out.at (.tail _ (.head _)))
  have HBW := Lib.hid (btwo HBE.out HVZ.out.2.2)
  have KP := Lib.hid (show kp ≤ maxLen by have := NP.out.slice; exact Nat.le_trans this.2.2.2.1 this.2.2.2.2.1)
  have XP := Lib.hid (HVZ.out.box (.tail _ (.tail _ (.tail _ (.head _)))))
  have XQ := Lib.hid (HVZ.out.box (.tail _ (.head _)))
  cases s with
  | false =>
    go_still_tail 9, (by kernel_rfl)
    go_wp2_with fail
    exact bodyPost_ret (v := .agg #[.bool false, .slice Ap kp cp, .slice Aq kq cq]) (by simp [results, Tryz.results42, go_sem, k0, k1, k2]) rfl (by rw [drew_eq]; exact fr_store HKR.out (by omega) NP.out NQ.out HBW.out 1)
  | true =>
    have HS := Lib.hid (show (true && !decide (x / gcdI x y = 0)) = !decide (kp = 0) by have := NP.out.slice; rw [Bool.true_and, decide_eq_decide.2 (show x / gcdI x y = 0 ↔ kp = 0 from ⟨fun e => by rw [this.2.1, e, digs_zero]; rfl, fun e => (len_zero this.1).1 (by omega)⟩)])
    go_region_with ((go_at_call 46; (with_reducible refine (isZero_len kp cp Ap _ KP.out).mono ?_); rintro e w5 ⟨rfl, hb5⟩; have D5 : Below wz.heap.size wz w5 := btwo (by first | exact Below.refl _ _ | exact (Below.refl _ _).drew | exact bdr (Below.refl _ _) _ | exact bdr (Below.refl _ _).drew _) hb5; obtain ⟨x5p, y5p⟩ := cell_old XP.out.1 XP.out.2 D5; obtain ⟨x5q, y5q⟩ := cell_old XQ.out.1 XQ.out.2 D5; obtain ⟨k0, k1, k2, k3, k4, k5, k6⟩ := (HKR.out.go D5).facts; have HD5 := Lib.hid D5; clear D5 hb5))
    all_goals (go_wp2_with fail)
    all_goals exact bodyPost_ret (v := .agg #[.bool (!decide (kp = 0)), .slice Ap kp cp, .slice Aq kq cq]) (by simp [results, Tryz.results42, go_sem, k0, k1, k2]) rfl (by rw [HS.out]; exact fr_store' (HKR.out.go HD5.out) (by omega) (NP.out.below HD5.out) (NQ.out.below HD5.out) (btwo HBW.out HD5.out))
end Go.Proofs.YtpinnopdimjfjaaGreatDoor
