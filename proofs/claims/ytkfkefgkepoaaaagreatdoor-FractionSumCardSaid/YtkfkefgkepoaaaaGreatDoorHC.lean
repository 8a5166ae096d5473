/- How two fractions compare by whole parts and rests, and the number that a box holds. -/
import Derived.Test.YtkfkefgkepoaaaaGreatDoorHA
import Derived.Test.YtkfkefgkepoaaaaGreatDoorNMathC
import Derived.Test.YtkfkefgkepoaaaaGreatDoorNLive
import Derived.Test.YtkfkefgkepoaaaaGreatDoorHB
namespace Go.Proofs.YtkfkefgkepoaaaaGreatDoor
open Go.RowKit
set_option linter.unusedVariables false
set_option maxRecDepth 100000

theorem sgn_neg (a : Int) : sgn (-a) = - sgn a := by
  unfold sgn
  by_cases h : a < 0
  · rw [if_neg (by omega), if_pos (by omega), if_pos h]; rfl
  · by_cases h2 : 0 < a
    · rw [if_pos (by omega), if_neg h, if_pos h2]
    · rw [if_neg (by omega), if_neg (by omega), if_neg h, if_neg h2]; rfl
theorem cf_lt {p q r s : Int} (hq : 0 < q) (hs : 0 < s) (h : p / q < r / s) : p * s < r * q := by
  have h1 : p < (p / q + 1) * q := Int.lt_ediv_add_one_mul_self p hq
  have h2 : (r / s) * s ≤ r := Int.ediv_mul_le r (by omega)
  have h3 : (p / q + 1) * q ≤ (r / s) * q := Int.mul_le_mul_of_nonneg_right (by omega) (by omega)
  have h4 : p * s < ((r / s) * q) * s := Int.mul_lt_mul_of_pos_right (by omega) hs
  have h5 : ((r / s) * s) * q ≤ r * q := Int.mul_le_mul_of_nonneg_right h2 (by omega)
  have h6 : ((r / s) * q) * s = ((r / s) * s) * q := by rw [Int.mul_assoc, Int.mul_comm q s, ← Int.mul_assoc]
  omega
/-- Whole parts that differ decide. -/
theorem cf_whole {p q r s : Int} (hq : 0 < q) (hs : 0 < s) (h : ¬ p / q = r / s) : sgn (p / q - r / s) = sgn (p * s - r * q) := by
  by_cases h1 : p / q < r / s
  · rw [sgn_lt (by omega), sgn_lt (by have := cf_lt hq hs h1; omega)]
  · rw [sgn_gt (by omega), sgn_gt (by have := cf_lt hs hq (show r / s < p / q by omega); omega)]
/-- With the same whole part the rests decide. -/
theorem cf_rest {p q r s : Int} (h : p / q = r / s) : p * s - r * q = (p % q) * s - (r % s) * q := by
  have h1 : p = q * (p / q) + p % q := (Int.mul_ediv_add_emod p q).symm
  have h2 : r = s * (r / s) + r % s := (Int.mul_ediv_add_emod r s).symm
  rw [← h] at h2
  have e1 : p * s = q * (p / q) * s + (p % q) * s := by
    have := congrArg (· * s) h1
    simpa [Int.add_mul] using this
  have e2 : r * q = s * (p / q) * q + (r % s) * q := by
    have := congrArg (· * q) h2
    simpa [Int.add_mul] using this
  have e3 : q * (p / q) * s = s * (p / q) * q := by
    rw [Int.mul_right_comm q, Int.mul_right_comm s, Int.mul_comm q s]
  omega
/-- A rest that is zero decides. -/
theorem cf_zero {a b q s : Int} (hq : 0 < q) (hs : 0 < s) (ha : 0 ≤ a) (hb : 0 ≤ b) (h : a = 0 ∨ b = 0) : sgn (a - b) = sgn (a * s - b * q) := by
  rcases h with rfl | rfl
  · by_cases h0 : b = 0
    · subst h0; simp
    · have : 0 < b * q := Int.mul_pos (by omega) hq
      rw [sgn_lt (by omega), sgn_lt (by simp; omega)]
  · by_cases h0 : a = 0
    · subst h0; simp
    · have : 0 < a * s := Int.mul_pos (by omega) hs
      rw [sgn_gt (by omega), sgn_gt (by simp; omega)]
/-- Two rests compare as their inverses the other way round. -/
theorem cf_flip (a b q s : Int) : sgn (a * s - b * q) = - sgn (q * b - s * a) := by
  rw [← sgn_neg]; congr 1; rw [Int.mul_comm a s, Int.mul_comm b q]; omega
/-- The number at a value is one. -/
theorem numAt_one {w : World} {v : Value} {x y : Int} (h : NumAt w v x) (k : NumAt w v y) : x = y := by
  obtain ⟨h0, A, c, e, hi, _, _, _⟩ := h
  obtain ⟨k0, B, d, f, ki, _, _, _⟩ := k
  rw [e] at f
  injection f with f1 f2 f3
  subst f1
  have hd : digs x = digs y := by
    by_cases hz : 0 < (digs x).length
    · obtain ⟨b, off, rfl, _, hc⟩ := hi hz
      obtain ⟨b2, off2, e2, _, kc⟩ := ki (by omega)
      injection e2 with e2
      injection e2 with e3 e4
      subst e3; subst e4
      refine List.ext_getElem f2 fun j h1 h2 => ?_
      have i1 := hc j h1
      have i2 := kc j h2
      rw [i1] at i2
      simp only [List.getD_eq_getElem?_getD, List.getElem?_eq_getElem h1, List.getElem?_eq_getElem h2, Option.getD_some] at i2
      injection i2 with i2
      injection i2
    · rw [List.eq_nil_of_length_eq_zero (show (digs x).length = 0 by omega), List.eq_nil_of_length_eq_zero (show (digs y).length = 0 by omega)]
  rw [← val_digs h0, ← val_digs k0, hd]
/-- The number that the box at b holds, as a measure. -/
noncomputable def boxN (b : Nat) (w : World) : Nat := by
  classical exact if h : ∃ x : Int, ∃ v, w.cell? ⟨b, 0, none⟩ = some v ∧ NumAt w v x then (Classical.choose h).toNat else 0
theorem boxN_is {b : Nat} {w : World} {v : Value} {x : Int} (h : w.cell? ⟨b, 0, none⟩ = some v) (k : NumAt w v x) : boxN b w = x.toNat := by
  have hx : ∃ x : Int, ∃ v, w.cell? ⟨b, 0, none⟩ = some v ∧ NumAt w v x := ⟨x, v, h, k⟩
  unfold boxN
  rw [dif_pos hx]
  obtain ⟨u, hu, ku⟩ := Classical.choose_spec hx
  rw [h] at hu
  injection hu with hu
  subst hu
  rw [numAt_one ku k]
/-- Boxes of one slice each, which may be stored to, and the numbers that live. -/
def BoxesW (W : World) (T : TypeId) (lb : List (Nat × Value)) (ln : List (Value × Int)) (w : World) : Prop :=
  (∀ b v, (b, v) ∈ lb → w.heap[b]? = some (.cells #[v] T (0, 0)) ∧ W.heap.size ≤ b ∧ ∃ A n c, v = .slice A n c) ∧ (∀ u y, (u, y) ∈ ln → NumAt w u y) ∧ Below W.heap.size W w
theorem BoxesW.start (W : World) (T : TypeId) : BoxesW W T [] [] W := ⟨fun _ _ h => by simp at h, fun _ _ h => by simp at h, Below.refl _ _⟩
theorem BoxesW.go {W w w' : World} {T : TypeId} {lb : List (Nat × Value)} {ln : List (Value × Int)} (h : BoxesW W T lb ln w) (hb : Below w.heap.size w w') : BoxesW W T lb ln w' :=
  ⟨fun b v hm => by
    obtain ⟨h1, h2, h3⟩ := h.1 b v hm
    exact ⟨by rw [hb.block _ (lt_of_block h1)]; exact h1, h2, h3⟩, fun u y hm => (h.2.1 u y hm).below hb, btwo h.2.2 hb⟩
theorem BoxesW.num {W w : World} {T : TypeId} {lb : List (Nat × Value)} {ln : List (Value × Int)} {u : Value} {y : Int} (h : BoxesW W T lb ln w) (hi : NumAt w u y) : BoxesW W T lb ((u, y) :: ln) w :=
  ⟨h.1, fun a b hm => by
    rcases List.mem_cons.1 hm with e | e
    · injection e with e1 e2; subst e1; subst e2; exact hi
    · exact h.2.1 a b e, h.2.2⟩
theorem BoxesW.at {W w : World} {T : TypeId} {lb : List (Nat × Value)} {ln : List (Value × Int)} {u : Value} {y : Int} (h : BoxesW W T lb ln w) (hm : (u, y) ∈ ln) : NumAt w u y := h.2.1 u y hm
theorem BoxesW.sub {W w : World} {T : TypeId} {lb lb' : List (Nat × Value)} {ln ln' : List (Value × Int)} (h : BoxesW W T lb ln w) (h1 : ∀ x ∈ lb', x ∈ lb) (h2 : ∀ x ∈ ln', x ∈ ln) : BoxesW W T lb' ln' w :=
  ⟨fun b v hm => h.1 b v (h1 _ hm), fun u y hm => h.2.1 u y (h2 _ hm), h.2.2⟩
theorem BoxesW.box {W w : World} {T : TypeId} {lb : List (Nat × Value)} {ln : List (Value × Int)} {b : Nat} {v : Value} (h : BoxesW W T lb ln w) (hm : (b, v) ∈ lb) :
    w.cell? ⟨b, 0, none⟩ = some v ∧ w.frozen? ⟨b, 0, none⟩ = false ∧ b < w.heap.size := by
  obtain ⟨h1, _, _⟩ := h.1 b v hm
  exact ⟨by rw [cell_of_row w _ 0 _ _ _ h1]; rfl, by simp [World.frozen?, h1], lt_of_block h1⟩
theorem BoxesW.new {W w : World} {T : TypeId} {lb : List (Nat × Value)} {ln : List (Value × Int)} (h : BoxesW W T lb ln w) (A : Option Addr) (n c : Nat) : BoxesW W T ((w.heap.size, .slice A n c) :: lb) ln (w.alloc (.cells #[.slice A n c] T)) := by
  have h' := h.go (one_new (w := w) (o := .cells #[.slice A n c] T))
  refine ⟨fun b v hm => ?_, h'.2⟩
  rcases List.mem_cons.1 hm with e | e
  · injection e with e1 e2; subst e1; subst e2
    exact ⟨heap_alloc_new w _, by have := h.2.2.size; omega, _, _, _, rfl⟩
  · exact h'.1 b v e
theorem box_set {w : World} {g : Nat} {v u : Value} {T : TypeId} (h : w.heap[g]? = some (.cells #[v] T (0, 0))) : (w.setCell ⟨g, 0, none⟩ u).heap[g]? = some (.cells #[u] T (0, 0)) := by
  have hlt := lt_of_block h
  have h' : w.heap[g] = .cells #[v] T (0, 0) := by simpa [Array.getElem?_eq_getElem hlt] using h
  show (w.heap.modify g _)[g]? = _
  rw [Array.getElem?_eq_getElem (by simpa using hlt), Array.getElem_modify_self, h']
  rfl
theorem IntsIn.set1 {w : World} {A : Option Addr} {L : List Int} {g n c : Nat} {B : Option Addr} {u : Value} {T : TypeId} (h : IntsIn w A L) (hg : w.heap[g]? = some (.cells #[.slice B n c] T (0, 0))) : IntsIn (w.setCell ⟨g, 0, none⟩ u) A L := by
  intro h0
  obtain ⟨b, off, rfl, hlt, hc⟩ := h h0
  have hb : ¬ b = g := by
    rintro rfl
    have h1 := hc 0 h0
    rw [cell_of_row w _ _ _ _ _ hg] at h1
    match off, h1 with
    | 0, h1 => simp at h1
    | k + 1, h1 => simp at h1
  refine ⟨b, off, rfl, by simpa [World.setCell] using hlt, fun j hj => ?_⟩
  have ap : (⟨b, off + j, none⟩ : Addr) ≠ ⟨g, 0, none⟩ := fun e => by injection e with e1; exact hb e1
  rw [World.cell?_setCell_other _ _ _ _ (by first | exact ap | exact ap.symm)]
  exact hc j hj
/-- A store to one of the boxes. -/
theorem BoxesW.set {W w : World} {T : TypeId} {lb : List (Nat × Value)} {ln : List (Value × Int)} {g : Nat} {v : Value} (h : BoxesW W T lb ln w) (hm : (g, v) ∈ lb) (A : Option Addr) (n c : Nat) :
    BoxesW W T (lb.map fun x => (x.1, if x.1 = g then .slice A n c else x.2)) ln (w.setCell ⟨g, 0, none⟩ (.slice A n c)) := by
  obtain ⟨g1, g2, B, m, d, rfl⟩ := h.1 g v hm
  refine ⟨fun b u hu => ?_, fun u y hu => ?_, h.2.2.setCell (p := ⟨g, 0, none⟩) g2 _⟩
  · obtain ⟨⟨b', u'⟩, hx, e⟩ := List.mem_map.1 hu
    injection e with e1 e2
    dsimp only at e1 e2
    subst e1
    obtain ⟨k1, k2, k3⟩ := h.1 b' u' hx
    by_cases hb : b' = g
    · subst hb
      rw [if_pos rfl] at e2
      subst e2
      exact ⟨box_set g1, k2, _, _, _, rfl⟩
    · rw [if_neg hb] at e2
      subst e2
      exact ⟨by rw [Below.heap_setCell _ _ _ _ (by show b' ≠ g; exact hb)]; exact k1, k2, k3⟩
  · obtain ⟨a, A', c', e, hi, k1, k2, k3⟩ := h.2.1 u y hu
    exact ⟨a, A', c', e, hi.set1 g1, k1, k2, k3⟩
end Go.Proofs.YtkfkefgkepoaaaaGreatDoor
/- Contracts of the reference's lowest of fractions. -/
namespace Go.Proofs.YtkfkefgkepoaaaaGreatDoor
open Go.RowKit
set_option linter.unusedVariables false
set_option maxRecDepth 100000

set_option maxHeartbeats 400000 in
theorem rzero_len (n c : Nat) (A : Option Addr) (w : World) (hn : n ≤ maxLen) :
    Calls Tryz.prog 41 #[.agg #[.slice A n c]] w fun e w' => e = .returned (.bool (decide (n = 0))) ∧ Below w.heap.size w w' := by
  have E := Lib.hid (show ((n : Int) == 0) = decide (n = 0) by rw [Bool.eq_iff_iff]; simp)
  unfold maxLen at hn
  go_enter Tryz.func41, Tryz.ntmps41
  go_wp2
  go_ret
  exact ⟨ret_bool E.out.symm, (Below.refl _ _).alloc (Nat.le_refl _) _⟩
set_option maxHeartbeats 4000000 in
theorem rlowest_num (s : Bool) (n c m d : Nat) (x y : Int) (A B : Option Addr) (W : World) (hx : NumAt W (.slice A n c) x) (hy : NumAt W (.slice B m d) y) (hg : 0 < gcdI x y) :
    Calls Tryz.prog 47 #[.bool s, .agg #[.slice A n c], .agg #[.slice B m d]] W (FrPost (s && !decide (x / gcdI x y = 0)) (x / gcdI x y) (y / gcdI x y) W) := by
  obtain ⟨E, hE⟩ : ∃ E : World, E = ((W.alloc (.cells #[.slice A n c] 30)).alloc (.cells #[.slice B m d] 30)).alloc (.cells #[.bool false, .slice none 0 0, .slice none 0 0] 32) := ⟨_, rfl⟩
  have BE : Below W.heap.size W E := by rw [hE]; exact btwo two_box one_new
  have KE : KeptF (W.heap.size + 1 + 1) E := by
    have := keptF_new ((W.alloc (.cells #[.slice A n c] 30)).alloc (.cells #[.slice B m d] 30))
    rw [← hE] at this
    simpa using this
  have VW := (((LiveA.start W).num hy).num hx).new2 (.slice A n c) (.slice B m d) 30
  have V0 := Lib.hid (show LiveA E [(⟨W.heap.size + 1, 0, none⟩, .slice B m d), (⟨W.heap.size, 0, none⟩, .slice A n c)] [(.slice A n c, x), (.slice B m d, y)] E by
    have h := VW.go (one_new (o := .cells #[.bool false, .slice none 0 0, .slice none 0 0] 32))
    rw [← hE] at h
    exact ⟨h.1, h.2.1, Below.refl _ _⟩)
  have HKE := Lib.hid KE
  have HBE := Lib.hid BE
  clear VW KE BE
  have PX := hx.1
  have PY := hy.1
  clear hx hy
  subst hE
  go_enter Tryz.func47, Tryz.ntmps47
  go_wp2_with fail
  refine (rgcd_num n c m d _ _ A B _ (V0.out.at (.head _)) (V0.out.at (.tail _ (.head _)))).mono ?_
  rintro e w1 ⟨Ag, cg, kg, rfl, n1, b1⟩
  have U1 := Lib.hid ((V0.out.go b1).num n1)
  clear n1 b1
  obtain ⟨x1_x, y1_x⟩ := U1.out.box (.tail _ (.head _))
  obtain ⟨x1_y, y1_y⟩ := U1.out.box (.head _)
  have V1 := Lib.hid (U1.out.new (.slice Ag kg cg) 30)
  go_wp2_with fail
  refine (rdiv_num n c kg cg _ _ A Ag _ (V1.out.at (.tail _ (.head _))) (V1.out.at (.head _)) hg).mono ?_
  rintro e w2 ⟨Ap, cp, kp, Au, cu, ku, rfl, n2, m2, b2⟩
  clear x1_x y1_x x1_y y1_y
  have U2 := Lib.hid (((V1.out.go b2).num n2).num m2)
  clear n2 m2 b2
  obtain ⟨x2_x, y2_x⟩ := U2.out.box (.tail _ (.tail _ (.head _)))
  obtain ⟨x2_y, y2_y⟩ := U2.out.box (.tail _ (.head _))
  obtain ⟨x2_g, y2_g⟩ := U2.out.box (.head _)
  have V2 := Lib.hid (U2.out.new2 (.slice Ap kp cp) (.slice Au ku cu) 30)
  go_wp2_with fail
  refine (rdiv_num m d kg cg _ _ B Ag _ (V2.out.at (.tail _ (.tail _ (.tail _ (.tail _ (.head _)))))) (V2.out.at (.tail _ (.tail _ (.head _)))) hg).mono ?_
  rintro e w3 ⟨Aq, cq, kq, Av, cv, kv, rfl, n3, m3, b3⟩
  clear x2_x y2_x x2_y y2_y x2_g y2_g
  have U3 := Lib.hid (((V2.out.go b3).num n3).num m3)
  clear n3 m3 b3
  obtain ⟨x3_p, y3_p⟩ := U3.out.box (.tail _ (.head _))
  obtain ⟨x3_x, y3_x⟩ := U3.out.box (.tail _ (.tail _ (.tail _ (.tail _ (.head _)))))
  have V3 := Lib.hid (U3.out.new2 (.slice Aq kq cq) (.slice Av kv cv) 30)
  obtain ⟨wz, hwz⟩ : ∃ wz : World, wz = (w3.alloc (.cells #[.slice Aq kq cq] 30)).alloc (.cells #[.slice Av kv cv] 30) := ⟨_, rfl⟩
  have VZ := V3.out
  rw [← hwz] at VZ
  have HVZ := Lib.hid VZ
  have HKR := Lib.hid (HKE.out.go VZ.2.2)
  clear x3_p y3_p x3_x y3_x
  go_upto_region 4 with fail
  rw [← hwz]
  clear hwz VZ
  obtain ⟨x3_p, y3_p⟩ := HVZ.out.box (.tail _ (.tail _ (.tail _ (.head _))))
  obtain ⟨x3_q, y3_q⟩ := HVZ.out.box (.tail _ (.head _))
  obtain ⟨k0, k1, k2, k3, k4, k5, k6⟩ := HKR.out.facts
  have NP := Lib.hid (HVZ.out.at (.tail _ (.tail _ (.tail _ (.head _)))))
  have NQ := Lib.hid (HVZ.out.at (.tail _ (.head _)))
  have HBW := Lib.hid (btwo HBE.out HVZ.out.2.2)
  have KP := Lib.hid (show kp ≤ maxLen by have := NP.out.slice; exact Nat.le_trans this.2.2.2.1 this.2.2.2.2.1)
  have XP := Lib.hid (HVZ.out.box (.tail _ (.tail _ (.tail _ (.head _)))))
  have XQ := Lib.hid (HVZ.out.box (.tail _ (.head _)))
  cases s with
  | false =>
    go_still_tail 9, (by kernel_rfl)
    go_wp2_with fail
    exact bodyPost_ret (v := .agg #[.bool false, .slice Ap kp cp, .slice Aq kq cq]) (by simp [results, Tryz.results47, go_sem, k0, k1, k2]) rfl (by rw [drew_eq]; exact fr_store HKR.out (by omega) NP.out NQ.out HBW.out 1)
  | true =>
    have HS := Lib.hid (show (true && !decide (x / gcdI x y = 0)) = !decide (kp = 0) by have := NP.out.slice; rw [Bool.true_and, decide_eq_decide.2 (show x / gcdI x y = 0 ↔ kp = 0 from ⟨fun e => by rw [this.2.1, e, digs_zero]; rfl, fun e => (len_zero this.1).1 (by omega)⟩)])
    go_region_with ((go_at_call 41; (with_reducible refine (rzero_len kp cp Ap _ KP.out).mono ?_); rintro e w5 ⟨rfl, hb5⟩; have D5 : Below wz.heap.size wz w5 := btwo (by first | exact Below.refl _ _ | exact (Below.refl _ _).drew | exact bdr (Below.refl _ _) _ | exact bdr (Below.refl _ _).drew _) hb5; obtain ⟨x5p, y5p⟩ := cell_old XP.out.1 XP.out.2 D5; obtain ⟨x5q, y5q⟩ := cell_old XQ.out.1 XQ.out.2 D5; obtain ⟨k0, k1, k2, k3, k4, k5, k6⟩ := (HKR.out.go D5).facts; have HD5 := Lib.hid D5; clear D5 hb5))
    all_goals (go_wp2_with fail)
    all_goals exact bodyPost_ret (v := .agg #[.bool (!decide (kp = 0)), .slice Ap kp cp, .slice Aq kq cq]) (by simp [results, Tryz.results47, go_sem, k0, k1, k2]) rfl (by rw [HS.out]; exact fr_store' (HKR.out.go HD5.out) (by omega) (NP.out.below HD5.out) (NQ.out.below HD5.out) (btwo HBW.out HD5.out))
theorem num_nil (w : World) : NumAt w (.slice none 0 0) 0 := ⟨Int.le_refl _, none, 0, by rw [digs_zero]; rfl, by rw [digs_zero]; exact fun h => by simp at h, by rw [digs_zero]; exact Nat.zero_le _, Nat.zero_le _, by rw [digs_zero]; exact Nat.zero_le _⟩
/-- A call that returns a fraction and a number of an error. -/
def FrE (r : Bool × Int × Int × Int) (W : World) (e : Ending) (w' : World) : Prop :=
  ∃ A c k B d l, e = .returned (.tuple #[.agg #[.bool r.1, .slice A k c, .slice B l d], .int .i64 r.2.2.2]) ∧ NumAt w' (.slice A k c) r.2.1 ∧ NumAt w' (.slice B l d) r.2.2.1 ∧ Below W.heap.size W w'
theorem FrOk.any {s : Bool} {p q : Int} {W w' : World} {e : Ending} (h : FrOk s p q W e w') : FrE (s, p, q, 0) W e w' := h
theorem FrErr.any {x : Int} {W w' : World} {e : Ending} (h : FrErr x W e w') : FrE (false, 0, 0, x) W e w' := ⟨none, 0, 0, none, 0, 0, h.1, num_nil _, num_nil _, h.2⟩
/-- The answer of Of. -/
def ofR (a b : Int) : Bool × Int × Int × Int :=
  if b = 0 then (false, 0, 0, 6) else if a < -1000000000000000 ∨ a > 1000000000000000 ∨ b < -1000000000000000 ∨ b > 1000000000000000 then (false, 0, 0, 3) else
  ((decide (a < 0) != decide (b < 0)) && !decide (max a (-a) / gcdI (max a (-a)) (max b (-b)) = 0), max a (-a) / gcdI (max a (-a)) (max b (-b)), max b (-b) / gcdI (max a (-a)) (max b (-b)), 0)
/-- The answer of New. -/
def newR (L M : List Int) : Bool × Int × Int × Int :=
  if ¬ (vldB L = true ∧ vldB M = true) then (false, 0, 0, 1) else if val M = 0 then (false, 0, 0, 6) else
  (false, val L / gcdI (val L) (val M), val M / gcdI (val L) (val M), 0)
set_option maxHeartbeats 2000000 in
theorem fof_zero (a : Int) (W : World) : Calls Tryz.prog 12 #[.int .i64 a, .int .i64 0] W (FrErr 6 W) := by
  have HB9 := Lib.hid (show Below W.heap.size W (W.alloc (.cells #[.bool false, .slice none 0 0, .slice none 0 0] 32)) from one_new)
  have HK9 := Lib.hid (keptF_new W)
  go_enter Tryz.func12, Tryz.ntmps12
  obtain ⟨j0, j1, j2, j3, j4, j5, j6⟩ := HK9.out.facts
  go_wp2_with fail
  refine bodyPost_ret (v := .tuple #[.agg #[.bool false, .slice none 0 0, .slice none 0 0], .int .i64 6]) ?_ rfl ?_
  · simp [results, Tryz.results12, go_sem, j0, j1, j2]
  · exact ⟨rfl, HB9.out⟩
set_option maxHeartbeats 2000000 in
theorem fof_big (a b : Int) (W : World) (hb : ¬ b = 0) (h : a < -1000000000000000 ∨ a > 1000000000000000 ∨ b < -1000000000000000 ∨ b > 1000000000000000) : Calls Tryz.prog 12 #[.int .i64 a, .int .i64 b] W (FrErr 3 W) := by
  have HB9 := Lib.hid (show Below W.heap.size W (W.alloc (.cells #[.bool false, .slice none 0 0, .slice none 0 0] 32)) from one_new)
  have HK9 := Lib.hid (keptF_new W)
  have e5 : (b == 0) = false := by simpa using hb
  clear hb
  by_cases h1 : a < -1000000000000000
  · clear h
    go_enter Tryz.func12, Tryz.ntmps12
    obtain ⟨j0, j1, j2, j3, j4, j5, j6⟩ := HK9.out.facts
    go_wp2_with fail
    refine bodyPost_ret (v := .tuple #[.agg #[.bool false, .slice none 0 0, .slice none 0 0], .int .i64 3]) ?_ rfl ?_
    · simp [results, Tryz.results12, go_sem, j0, j1, j2]
    · exact ⟨rfl, HB9.out⟩
  · skip
    by_cases h2 : a > 1000000000000000
    · clear h
      go_enter Tryz.func12, Tryz.ntmps12
      obtain ⟨j0, j1, j2, j3, j4, j5, j6⟩ := HK9.out.facts
      go_wp2_with fail
      refine bodyPost_ret (v := .tuple #[.agg #[.bool false, .slice none 0 0, .slice none 0 0], .int .i64 3]) ?_ rfl ?_
      · simp [results, Tryz.results12, go_sem, j0, j1, j2]
      · exact ⟨rfl, HB9.out⟩
    · skip
      by_cases h3 : b < -1000000000000000
      · clear h
        go_enter Tryz.func12, Tryz.ntmps12
        obtain ⟨j0, j1, j2, j3, j4, j5, j6⟩ := HK9.out.facts
        go_wp2_with fail
        refine bodyPost_ret (v := .tuple #[.agg #[.bool false, .slice none 0 0, .slice none 0 0], .int .i64 3]) ?_ rfl ?_
        · simp [results, Tryz.results12, go_sem, j0, j1, j2]
        · exact ⟨rfl, HB9.out⟩
      · skip
        have h4 : b > 1000000000000000 := by omega
        clear h
        go_enter Tryz.func12, Tryz.ntmps12
        obtain ⟨j0, j1, j2, j3, j4, j5, j6⟩ := HK9.out.facts
        go_wp2_with fail
        refine bodyPost_ret (v := .tuple #[.agg #[.bool false, .slice none 0 0, .slice none 0 0], .int .i64 3]) ?_ rfl ?_
        · simp [results, Tryz.results12, go_sem, j0, j1, j2]
        · exact ⟨rfl, HB9.out⟩
set_option maxHeartbeats 2000000 in
theorem rof_zero (a : Int) (W : World) : Calls Tryz.prog 24 #[.int .i64 a, .int .i64 0] W (FrErr 6 W) := by
  have HB9 := Lib.hid (show Below W.heap.size W (W.alloc (.cells #[.bool false, .slice none 0 0, .slice none 0 0] 32)) from one_new)
  have HK9 := Lib.hid (keptF_new W)
  go_enter Tryz.func24, Tryz.ntmps24
  obtain ⟨j0, j1, j2, j3, j4, j5, j6⟩ := HK9.out.facts
  go_wp2_with fail
  refine bodyPost_ret (v := .tuple #[.agg #[.bool false, .slice none 0 0, .slice none 0 0], .int .i64 6]) ?_ rfl ?_
  · simp [results, Tryz.results24, go_sem, j0, j1, j2]
  · exact ⟨rfl, HB9.out⟩
set_option maxHeartbeats 2000000 in
theorem rof_big (a b : Int) (W : World) (hb : ¬ b = 0) (h : a < -1000000000000000 ∨ a > 1000000000000000 ∨ b < -1000000000000000 ∨ b > 1000000000000000) : Calls Tryz.prog 24 #[.int .i64 a, .int .i64 b] W (FrErr 3 W) := by
  have HB9 := Lib.hid (show Below W.heap.size W (W.alloc (.cells #[.bool false, .slice none 0 0, .slice none 0 0] 32)) from one_new)
  have HK9 := Lib.hid (keptF_new W)
  have e5 : (b == 0) = false := by simpa using hb
  clear hb
  by_cases h1 : a < -1000000000000000
  · clear h
    go_enter Tryz.func24, Tryz.ntmps24
    obtain ⟨j0, j1, j2, j3, j4, j5, j6⟩ := HK9.out.facts
    go_wp2_with fail
    refine bodyPost_ret (v := .tuple #[.agg #[.bool false, .slice none 0 0, .slice none 0 0], .int .i64 3]) ?_ rfl ?_
    · simp [results, Tryz.results24, go_sem, j0, j1, j2]
    · exact ⟨rfl, HB9.out⟩
  · skip
    by_cases h2 : a > 1000000000000000
    · clear h
      go_enter Tryz.func24, Tryz.ntmps24
      obtain ⟨j0, j1, j2, j3, j4, j5, j6⟩ := HK9.out.facts
      go_wp2_with fail
      refine bodyPost_ret (v := .tuple #[.agg #[.bool false, .slice none 0 0, .slice none 0 0], .int .i64 3]) ?_ rfl ?_
      · simp [results, Tryz.results24, go_sem, j0, j1, j2]
      · exact ⟨rfl, HB9.out⟩
    · skip
      by_cases h3 : b < -1000000000000000
      · clear h
        go_enter Tryz.func24, Tryz.ntmps24
        obtain ⟨j0, j1, j2, j3, j4, j5, j6⟩ := HK9.out.facts
        go_wp2_with fail
        refine bodyPost_ret (v := .tuple #[.agg #[.bool false, .slice none 0 0, .slice none 0 0], .int .i64 3]) ?_ rfl ?_
        · simp [results, Tryz.results24, go_sem, j0, j1, j2]
        · exact ⟨rfl, HB9.out⟩
      · skip
        have h4 : b > 1000000000000000 := by omega
        clear h
        go_enter Tryz.func24, Tryz.ntmps24
        obtain ⟨j0, j1, j2, j3, j4, j5, j6⟩ := HK9.out.facts
        go_wp2_with fail
        refine bodyPost_ret (v := .tuple #[.agg #[.bool false, .slice none 0 0, .slice none 0 0], .int .i64 3]) ?_ rfl ?_
        · simp [results, Tryz.results24, go_sem, j0, j1, j2]
        · exact ⟨rfl, HB9.out⟩
set_option maxHeartbeats 4000000 in
theorem rof_good (a b M N : Int) (W : World) (ha0 : -1000000000000000 ≤ a) (ha1 : a ≤ 1000000000000000) (hb0 : -1000000000000000 ≤ b) (hb1 : b ≤ 1000000000000000) (hb : ¬ b = 0) (hM : M = max a (-a)) (hN : N = max b (-b)) :
    Calls Tryz.prog 24 #[.int .i64 a, .int .i64 b] W (FrOk ((decide (a < 0) != decide (b < 0)) && !decide (M / gcdI M N = 0)) (M / gcdI M N) (N / gcdI M N) W) := by
  have hM0 : 0 ≤ M := by omega
  have hM1 : M ≤ 1000000000000000 := by omega
  have hN0 : 0 < N := by omega
  have hN1 : N ≤ 1000000000000000 := by omega
  have hg : 0 < gcdI M N := by rw [gcdI_comm]; exact gcdI_pos hN0
  have HBE := Lib.hid (show Below W.heap.size W (W.alloc (.cells #[.bool false, .slice none 0 0, .slice none 0 0] 32)) from one_new)
  have HKE := Lib.hid (keptF_new W)
  have V0 := Lib.hid (LiveA.start (W.alloc (.cells #[.bool false, .slice none 0 0, .slice none 0 0] 32)))
  have e5 : (b == 0) = false := by simpa using hb
  clear hb
  by_cases hna : a < 0
  · by_cases hnb : b < 0
    · have da : decide (a < 0) = true := decide_eq_true hna
      have db : decide (b < 0) = true := decide_eq_true hnb
      have eM : -a = M := by omega
      have eN : -b = N := by omega
      clear hM hN hna hnb
      have EM := Lib.hid eM
      clear eM
      have EN := Lib.hid eN
      clear eN
      go_enter Tryz.func24, Tryz.ntmps24
      go_wp2_with fail
      rw [EM.out]
      refine (rSmall_num M _ hM0 hM1).mono ?_
      rintro e w1 ⟨Am, cm, km, rfl, n1, b1⟩
      have V1 := Lib.hid ((V0.out.go b1).num n1)
      clear n1 b1
      go_wp2_with fail
      rw [EN.out]
      refine (rSmall_num N _ (by omega) hN1).mono ?_
      rintro e w2 ⟨An, cn, kn, rfl, n2, b2⟩
      have V2 := Lib.hid ((V1.out.go b2).num n2)
      clear n2 b2
      have HB2 := Lib.hid (btwo HBE.out V2.out.2.2)
      go_wp2_with fail
      refine (rlowest_num _ km cm kn cn M N Am An _ (V2.out.at (.tail _ (.head _))) (V2.out.at (.head _)) hg).mono ?_
      rintro e w3 ⟨Ap, cp, kp, Aq, cq, kq, rfl, n3, m3, b3⟩
      have HB3 := Lib.hid (btwo HB2.out b3)
      have N3 := Lib.hid n3
      have M3 := Lib.hid m3
      have K3 := Lib.hid ((HKE.out.go V2.out.2.2).go b3)
      clear n3 m3 b3
      obtain ⟨k0, k1, k2, k3, k4, k5, k6⟩ := K3.out.facts
      go_wp2_with fail
      refine bodyPost_ret (v := .tuple #[.agg #[.bool false, .slice Ap kp cp, .slice Aq kq cq], .int .i64 0]) ?_ rfl ?_
      · simp [results, Tryz.results24, go_sem, k0, k1, k2]
      · have e : (decide (a < 0) != decide (b < 0) && !decide (M / gcdI M N = 0)) = false := by rw [da, db]; rfl
        rw [e]
        have h := fr_ok (s := false) K3.out (Nat.le_refl _) N3.out M3.out HB3.out
        exact h
    · have da : decide (a < 0) = true := decide_eq_true hna
      have db : decide (b < 0) = false := decide_eq_false hnb
      have eM : -a = M := by omega
      have eN : b = N := by omega
      clear hM hN hna hnb
      have EM := Lib.hid eM
      clear eM
      subst eN
      go_enter Tryz.func24, Tryz.ntmps24
      go_wp2_with fail
      rw [EM.out]
      refine (rSmall_num M _ hM0 hM1).mono ?_
      rintro e w1 ⟨Am, cm, km, rfl, n1, b1⟩
      have V1 := Lib.hid ((V0.out.go b1).num n1)
      clear n1 b1
      go_wp2_with fail
      refine (rSmall_num b _ (by omega) hN1).mono ?_
      rintro e w2 ⟨An, cn, kn, rfl, n2, b2⟩
      have V2 := Lib.hid ((V1.out.go b2).num n2)
      clear n2 b2
      have HB2 := Lib.hid (btwo HBE.out V2.out.2.2)
      go_wp2_with fail
      refine (rlowest_num _ km cm kn cn M b Am An _ (V2.out.at (.tail _ (.head _))) (V2.out.at (.head _)) hg).mono ?_
      rintro e w3 ⟨Ap, cp, kp, Aq, cq, kq, rfl, n3, m3, b3⟩
      have HB3 := Lib.hid (btwo HB2.out b3)
      have N3 := Lib.hid n3
      have M3 := Lib.hid m3
      have K3 := Lib.hid ((HKE.out.go V2.out.2.2).go b3)
      clear n3 m3 b3
      obtain ⟨k0, k1, k2, k3, k4, k5, k6⟩ := K3.out.facts
      go_wp2_with fail
      refine bodyPost_ret (v := .tuple #[.agg #[.bool (!decide (M / gcdI M b = 0)), .slice Ap kp cp, .slice Aq kq cq], .int .i64 0]) ?_ rfl ?_
      · simp [results, Tryz.results24, go_sem, k0, k1, k2]
      · have e : (decide (a < 0) != decide (b < 0) && !decide (M / gcdI M b = 0)) = (!decide (M / gcdI M b = 0)) := by rw [da, db]; rfl
        rw [e]
        have h := fr_ok (s := (!decide (M / gcdI M b = 0))) K3.out (Nat.le_refl _) N3.out M3.out HB3.out
        exact h
  · by_cases hnb : b < 0
    · have da : decide (a < 0) = false := decide_eq_false hna
      have db : decide (b < 0) = true := decide_eq_true hnb
      have eM : a = M := by omega
      have eN : -b = N := by omega
      clear hM hN hna hnb
      subst eM
      have EN := Lib.hid eN
      clear eN
      go_enter Tryz.func24, Tryz.ntmps24
      go_wp2_with fail
      refine (rSmall_num a _ hM0 hM1).mono ?_
      rintro e w1 ⟨Am, cm, km, rfl, n1, b1⟩
      have V1 := Lib.hid ((V0.out.go b1).num n1)
      clear n1 b1
      go_wp2_with fail
      rw [EN.out]
      refine (rSmall_num N _ (by omega) hN1).mono ?_
      rintro e w2 ⟨An, cn, kn, rfl, n2, b2⟩
      have V2 := Lib.hid ((V1.out.go b2).num n2)
      clear n2 b2
      have HB2 := Lib.hid (btwo HBE.out V2.out.2.2)
      go_wp2_with fail
      refine (rlowest_num _ km cm kn cn a N Am An _ (V2.out.at (.tail _ (.head _))) (V2.out.at (.head _)) hg).mono ?_
      rintro e w3 ⟨Ap, cp, kp, Aq, cq, kq, rfl, n3, m3, b3⟩
      have HB3 := Lib.hid (btwo HB2.out b3)
      have N3 := Lib.hid n3
      have M3 := Lib.hid m3
      have K3 := Lib.hid ((HKE.out.go V2.out.2.2).go b3)
      clear n3 m3 b3
      obtain ⟨k0, k1, k2, k3, k4, k5, k6⟩ := K3.out.facts
      go_wp2_with fail
      refine bodyPost_ret (v := .tuple #[.agg #[.bool (!decide (a / gcdI a N = 0)), .slice Ap kp cp, .slice Aq kq cq], .int .i64 0]) ?_ rfl ?_
      · simp [results, Tryz.results24, go_sem, k0, k1, k2]
      · have e : (decide (a < 0) != decide (b < 0) && !decide (a / gcdI a N = 0)) = (!decide (a / gcdI a N = 0)) := by rw [da, db]; rfl
        rw [e]
        have h := fr_ok (s := (!decide (a / gcdI a N = 0))) K3.out (Nat.le_refl _) N3.out M3.out HB3.out
        exact h
    · have da : decide (a < 0) = false := decide_eq_false hna
      have db : decide (b < 0) = false := decide_eq_false hnb
      have eM : a = M := by omega
      have eN : b = N := by omega
      clear hM hN hna hnb
      subst eM
      subst eN
      go_enter Tryz.func24, Tryz.ntmps24
      go_wp2_with fail
      refine (rSmall_num a _ hM0 hM1).mono ?_
      rintro e w1 ⟨Am, cm, km, rfl, n1, b1⟩
      have V1 := Lib.hid ((V0.out.go b1).num n1)
      clear n1 b1
      go_wp2_with fail
      refine (rSmall_num b _ (by omega) hN1).mono ?_
      rintro e w2 ⟨An, cn, kn, rfl, n2, b2⟩
      have V2 := Lib.hid ((V1.out.go b2).num n2)
      clear n2 b2
      have HB2 := Lib.hid (btwo HBE.out V2.out.2.2)
      go_wp2_with fail
      refine (rlowest_num _ km cm kn cn a b Am An _ (V2.out.at (.tail _ (.head _))) (V2.out.at (.head _)) hg).mono ?_
      rintro e w3 ⟨Ap, cp, kp, Aq, cq, kq, rfl, n3, m3, b3⟩
      have HB3 := Lib.hid (btwo HB2.out b3)
      have N3 := Lib.hid n3
      have M3 := Lib.hid m3
      have K3 := Lib.hid ((HKE.out.go V2.out.2.2).go b3)
      clear n3 m3 b3
      obtain ⟨k0, k1, k2, k3, k4, k5, k6⟩ := K3.out.facts
      go_wp2_with fail
      refine bodyPost_ret (v := .tuple #[.agg #[.bool false, .slice Ap kp cp, .slice Aq kq cq], .int .i64 0]) ?_ rfl ?_
      · simp [results, Tryz.results24, go_sem, k0, k1, k2]
      · have e : (decide (a < 0) != decide (b < 0) && !decide (a / gcdI a b = 0)) = false := by rw [da, db]; rfl
        rw [e]
        have h := fr_ok (s := false) K3.out (Nat.le_refl _) N3.out M3.out HB3.out
        exact h
theorem fof3_any (a b : Int) (W : World) : Calls Tryz.prog 12 #[.int .i64 a, .int .i64 b] W (FrE (ofR a b) W) := by
  unfold ofR
  by_cases hb : b = 0
  · subst hb
    rw [if_pos rfl]
    exact (fof_zero a W).mono fun e w' h => h.any
  · rw [if_neg hb]
    by_cases h : a < -1000000000000000 ∨ a > 1000000000000000 ∨ b < -1000000000000000 ∨ b > 1000000000000000
    · rw [if_pos h]
      exact (fof_big a b W hb h).mono fun e w' h => h.any
    · rw [if_neg h]
      exact (fof_good a b _ _ W (by omega) (by omega) (by omega) (by omega) hb rfl rfl).mono fun e w' h => h.any
theorem rof3_any (a b : Int) (W : World) : Calls Tryz.prog 24 #[.int .i64 a, .int .i64 b] W (FrE (ofR a b) W) := by
  unfold ofR
  by_cases hb : b = 0
  · subst hb
    rw [if_pos rfl]
    exact (rof_zero a W).mono fun e w' h => h.any
  · rw [if_neg hb]
    by_cases h : a < -1000000000000000 ∨ a > 1000000000000000 ∨ b < -1000000000000000 ∨ b > 1000000000000000
    · rw [if_pos h]
      exact (rof_big a b W hb h).mono fun e w' h => h.any
    · rw [if_neg h]
      exact (rof_good a b _ _ W (by omega) (by omega) (by omega) (by omega) hb rfl rfl).mono fun e w' h => h.any
end Go.Proofs.YtkfkefgkepoaaaaGreatDoor
/- Contracts of the program's product of fractions. -/
namespace Go.Proofs.YtkfkefgkepoaaaaGreatDoor
open Go.RowKit
set_option linter.unusedVariables false
set_option maxRecDepth 100000

theorem gcdI_low {x y : Int} (hx : 0 ≤ x) (hy : 0 < y) : gcdI (x / gcdI x y) (y / gcdI x y) = 1 := by
  obtain ⟨a, rfl⟩ := Int.eq_ofNat_of_zero_le hx
  obtain ⟨b, rfl⟩ := Int.eq_ofNat_of_zero_le (Int.le_of_lt hy)
  have hb : 0 < b := by omega
  rw [gcdI_nat, show ((a : Int) / (Nat.gcd a b : Int)) = ((a / Nat.gcd a b : Nat) : Int) by simp, show ((b : Int) / (Nat.gcd a b : Int)) = ((b / Nat.gcd a b : Nat) : Int) by simp, gcdI_nat]
  rw [Nat.gcd_div_gcd_div_gcd_of_pos_right hb]; rfl
theorem low_pos {x y : Int} (hx : 0 ≤ x) (hy : 0 < y) : 0 < y / gcdI x y := by
  obtain ⟨a, rfl⟩ := Int.eq_ofNat_of_zero_le hx
  obtain ⟨b, rfl⟩ := Int.eq_ofNat_of_zero_le (Int.le_of_lt hy)
  have hb : 0 < b := by omega
  rw [gcdI_nat, show ((b : Int) / (Nat.gcd a b : Int)) = ((b / Nat.gcd a b : Nat) : Int) by simp]
  have := Nat.div_pos (Nat.gcd_le_right a hb) (Nat.gcd_pos_of_pos_right a hb)
  omega
/-- A call that returns a number and the number of an error. -/
def ValR (r : Int × Int) (W : World) (e : Ending) (w' : World) : Prop := ∃ A c k, e = .returned (.tuple #[.agg #[.slice A k c], .int .i64 r.2]) ∧ NumAt w' (.slice A k c) r.1 ∧ Below W.heap.size W w'
theorem val_r {r : Int × Int} {W w' : World} {e : Ending} (h : NatPost r W e w') (h0 : 0 ≤ r.1) (hl : (digs r.1).length ≤ 200) : ValR r W e w' := by
  obtain ⟨A, c, he, hi, hc, hm, hb⟩ := h
  exact ⟨A, c, _, he, ⟨h0, A, c, rfl, hi, hc, hm, hl⟩, hb⟩
theorem lim_fst {z : Int} (h : 0 ≤ z) : 0 ≤ (lim z).1 ∧ (digs (lim z).1).length ≤ 200 := by
  unfold lim
  split
  · exact ⟨Int.le_refl _, by rw [show ((0 : Int), (3 : Int)).1 = 0 from rfl, digs_zero]; exact Nat.zero_le _⟩
  · exact ⟨h, by show (digs z).length ≤ 200; omega⟩
theorem lim_no {z : Int} (h : 200 < (digs z).length) : lim z = (0, 3) := by unfold lim; rw [if_pos h]
theorem mul_r (n c m d : Nat) (x y : Int) (A B : Option Addr) (w : World) (h : NumAt w (.slice A n c) x) (k : NumAt w (.slice B m d) y) :
    Calls Tryz.prog 37 #[.agg #[.slice A n c], .agg #[.slice B m d]] w (ValR (lim (x * y)) w) := by
  obtain ⟨a1, a2, a3, a4, a5, a6, a7, a8⟩ := num_in h
  obtain ⟨b1, b2, b3, b4, b5, b6, b7, b8⟩ := num_in k
  refine (mul_any (digs x) (digs y) n c m d A B w a1 b1 a2 b2 a3 b3 a5 b5).mono fun e w' h => ?_
  rw [two_ok _ a6 b6, a7, b7] at h
  exact val_r h (lim_fst (Int.mul_nonneg a8 b8)).1 (lim_fst (Int.mul_nonneg a8 b8)).2
theorem mul_over (n c m d : Nat) (x y : Int) (A B : Option Addr) (w : World) (h : NumAt w (.slice A n c) x) (k : NumAt w (.slice B m d) y) (hl : 200 < (digs (x * y)).length) :
    Calls Tryz.prog 37 #[.agg #[.slice A n c], .agg #[.slice B m d]] w (ErrPost 3 w) := by
  obtain ⟨a1, a2, a3, a4, a5, a6, a7, a8⟩ := num_in h
  obtain ⟨b1, b2, b3, b4, b5, b6, b7, b8⟩ := num_in k
  refine (mul_any (digs x) (digs y) n c m d A B w a1 b1 a2 b2 a3 b3 a5 b5).mono fun e w' h => ?_
  rw [two_ok _ a6 b6, a7, b7] at h
  exact err_post h (lim_no hl)
theorem rmul_r (n c m d : Nat) (x y : Int) (A B : Option Addr) (w : World) (h : NumAt w (.slice A n c) x) (k : NumAt w (.slice B m d) y) :
    Calls Tryz.prog 45 #[.agg #[.slice A n c], .agg #[.slice B m d]] w (ValR (lim (x * y)) w) := by
  obtain ⟨a1, a2, a3, a4, a5, a6, a7, a8⟩ := num_in h
  obtain ⟨b1, b2, b3, b4, b5, b6, b7, b8⟩ := num_in k
  refine (rmul_any (digs x) (digs y) n c m d A B w a1 b1 a2 b2 a3 b3 a5 b5).mono fun e w' h => ?_
  rw [two_ok _ a6 b6, a7, b7] at h
  exact val_r h (lim_fst (Int.mul_nonneg a8 b8)).1 (lim_fst (Int.mul_nonneg a8 b8)).2
theorem rmul_over (n c m d : Nat) (x y : Int) (A B : Option Addr) (w : World) (h : NumAt w (.slice A n c) x) (k : NumAt w (.slice B m d) y) (hl : 200 < (digs (x * y)).length) :
    Calls Tryz.prog 45 #[.agg #[.slice A n c], .agg #[.slice B m d]] w (ErrPost 3 w) := by
  obtain ⟨a1, a2, a3, a4, a5, a6, a7, a8⟩ := num_in h
  obtain ⟨b1, b2, b3, b4, b5, b6, b7, b8⟩ := num_in k
  refine (rmul_any (digs x) (digs y) n c m d A B w a1 b1 a2 b2 a3 b3 a5 b5).mono fun e w' h => ?_
  rw [two_ok _ a6 b6, a7, b7] at h
  exact err_post h (lim_no hl)
theorem add_r (n c m d : Nat) (x y : Int) (A B : Option Addr) (w : World) (h : NumAt w (.slice A n c) x) (k : NumAt w (.slice B m d) y) :
    Calls Tryz.prog 39 #[.agg #[.slice A n c], .agg #[.slice B m d]] w (ValR (lim (x + y)) w) := by
  obtain ⟨a1, a2, a3, a4, a5, a6, a7, a8⟩ := num_in h
  obtain ⟨b1, b2, b3, b4, b5, b6, b7, b8⟩ := num_in k
  refine (add_any (digs x) (digs y) n c m d A B w a1 b1 a2 b2 a3 b3 a5 b5).mono fun e w' h => ?_
  rw [two_ok _ a6 b6, a7, b7] at h
  exact val_r h (lim_fst (Int.add_nonneg a8 b8)).1 (lim_fst (Int.add_nonneg a8 b8)).2
theorem add_over (n c m d : Nat) (x y : Int) (A B : Option Addr) (w : World) (h : NumAt w (.slice A n c) x) (k : NumAt w (.slice B m d) y) (hl : 200 < (digs (x + y)).length) :
    Calls Tryz.prog 39 #[.agg #[.slice A n c], .agg #[.slice B m d]] w (ErrPost 3 w) := by
  obtain ⟨a1, a2, a3, a4, a5, a6, a7, a8⟩ := num_in h
  obtain ⟨b1, b2, b3, b4, b5, b6, b7, b8⟩ := num_in k
  refine (add_any (digs x) (digs y) n c m d A B w a1 b1 a2 b2 a3 b3 a5 b5).mono fun e w' h => ?_
  rw [two_ok _ a6 b6, a7, b7] at h
  exact err_post h (lim_no hl)
theorem radd_r (n c m d : Nat) (x y : Int) (A B : Option Addr) (w : World) (h : NumAt w (.slice A n c) x) (k : NumAt w (.slice B m d) y) :
    Calls Tryz.prog 46 #[.agg #[.slice A n c], .agg #[.slice B m d]] w (ValR (lim (x + y)) w) := by
  obtain ⟨a1, a2, a3, a4, a5, a6, a7, a8⟩ := num_in h
  obtain ⟨b1, b2, b3, b4, b5, b6, b7, b8⟩ := num_in k
  refine (radd_any (digs x) (digs y) n c m d A B w a1 b1 a2 b2 a3 b3 a5 b5).mono fun e w' h => ?_
  rw [two_ok _ a6 b6, a7, b7] at h
  exact val_r h (lim_fst (Int.add_nonneg a8 b8)).1 (lim_fst (Int.add_nonneg a8 b8)).2
theorem radd_over (n c m d : Nat) (x y : Int) (A B : Option Addr) (w : World) (h : NumAt w (.slice A n c) x) (k : NumAt w (.slice B m d) y) (hl : 200 < (digs (x + y)).length) :
    Calls Tryz.prog 46 #[.agg #[.slice A n c], .agg #[.slice B m d]] w (ErrPost 3 w) := by
  obtain ⟨a1, a2, a3, a4, a5, a6, a7, a8⟩ := num_in h
  obtain ⟨b1, b2, b3, b4, b5, b6, b7, b8⟩ := num_in k
  refine (radd_any (digs x) (digs y) n c m d A B w a1 b1 a2 b2 a3 b3 a5 b5).mono fun e w' h => ?_
  rw [two_ok _ a6 b6, a7, b7] at h
  exact err_post h (lim_no hl)
/-- In lowest terms. -/
def low (s : Bool) (n d : Int) : Bool × Int × Int × Int := (s && !decide (n / gcdI n d = 0), n / gcdI n d, d / gcdI n d, 0)
/-- The answer of product. -/
def prodR (s s2 : Bool) (p q r t : Int) : Bool × Int × Int × Int := if 200 < (digs (p * r)).length ∨ 200 < (digs (q * t)).length then (false, 0, 0, 3) else low (s != s2) (p * r) (q * t)
end Go.Proofs.YtkfkefgkepoaaaaGreatDoor
/- Contract of the program's Mul of fractions. -/
namespace Go.Proofs.YtkfkefgkepoaaaaGreatDoor
open Go.RowKit
set_option linter.unusedVariables false
set_option maxRecDepth 100000

theorem fr_e {W w : World} {g : Nat} {r : Bool × Int × Int × Int} {A B : Option Addr} {k c l d : Nat} (hg : KeptF g w) (hW : W.heap.size ≤ g) (hp : NumAt w (.slice A k c) r.2.1) (hq : NumAt w (.slice B l d) r.2.2.1) (hb : Below W.heap.size W w) :
    FrE r W (.returned (.tuple #[.agg #[.bool r.1, .slice A k c, .slice B l d], .int .i64 r.2.2.2])) (((w.setCell ⟨g, 0, none⟩ (.bool r.1)).setCell ⟨g, 1, none⟩ (.slice A k c)).setCell ⟨g, 2, none⟩ (.slice B l d)) :=
  ⟨A, c, k, B, d, l, rfl, hp.storeF hg, hq.storeF hg, ((hb.setCell (p := ⟨g, 0, none⟩) hW _).setCell (p := ⟨g, 1, none⟩) hW _).setCell (p := ⟨g, 2, none⟩) hW _⟩
/-- The answer of an operation on two fractions. -/
def opR (f : Bool → Bool → Int → Int → Int → Int → Bool × Int × Int × Int) (s s2 : Bool) (L M L2 M2 : List Int) : Bool × Int × Int × Int :=
  if vldF s L M = true ∧ vldF s2 L2 M2 = true then f s s2 (val L) (val M) (val L2) (val M2) else (false, 0, 0, 1)
theorem opR_ok {f : Bool → Bool → Int → Int → Int → Int → Bool × Int × Int × Int} {s s2 : Bool} {L M L2 M2 : List Int} (h : vldF s L M = true) (h2 : vldF s2 L2 M2 = true) : opR f s s2 L M L2 M2 = f s s2 (val L) (val M) (val L2) (val M2) := if_pos ⟨h, h2⟩
theorem opR_no {f : Bool → Bool → Int → Int → Int → Int → Bool × Int × Int × Int} {s s2 : Bool} {L M L2 M2 : List Int} (h : ¬ (vldF s L M = true ∧ vldF s2 L2 M2 = true)) : opR f s s2 L M L2 M2 = (false, 0, 0, 1) := if_neg h
theorem vldF_pos {s : Bool} {L M : List Int} (h : vldF s L M = true) : vldB L = true ∧ vldB M = true ∧ 0 < val M ∧ gcdI (val L) (val M) = 1 ∧ (s = true → 0 < val L) := by
  have h := of_decide_eq_true h
  exact ⟨h.1.1, h.1.2, h.2.1, h.2.2.1, h.2.2.2⟩
end Go.Proofs.YtkfkefgkepoaaaaGreatDoor
/- Contracts of the reference's products and Mul of fractions. -/
namespace Go.Proofs.YtkfkefgkepoaaaaGreatDoor
open Go.RowKit
set_option linter.unusedVariables false
set_option maxRecDepth 100000

/-- A call that returns two numbers and the number of an error. -/
def PrPost (r : Int × Int × Int) (W : World) (e : Ending) (w' : World) : Prop :=
  ∃ A c k B d l, e = .returned (.tuple #[.agg #[.slice A k c], .agg #[.slice B l d], .int .i64 r.2.2]) ∧ NumAt w' (.slice A k c) r.1 ∧ NumAt w' (.slice B l d) r.2.1 ∧ Below W.heap.size W w'
theorem pr_store {W w : World} {g : Nat} {r : Int × Int × Int} {A B : Option Addr} {k c l d : Nat} (h1 : KeptAt g w) (h2 : KeptAt (g + 1) w) (hW : W.heap.size ≤ g) (hx : NumAt w (.slice A k c) r.1) (hy : NumAt w (.slice B l d) r.2.1) (hb : Below W.heap.size W w) :
    PrPost r W (.returned (.tuple #[.agg #[.slice A k c], .agg #[.slice B l d], .int .i64 r.2.2])) ((w.setCell ⟨g, 0, none⟩ (.slice A k c)).setCell ⟨g + 1, 0, none⟩ (.slice B l d)) := by
  have h3 : (w.setCell ⟨g, 0, none⟩ (.slice A k c)).heap[g + 1]? = some (.cells #[.slice none 0 0] 30 (0, 0)) := by
    rw [Below.heap_setCell _ _ _ _ (by simp)]; exact h2
  have key : ∀ {v : Value} {x : Int}, NumAt w v x → NumAt ((w.setCell ⟨g, 0, none⟩ (.slice A k c)).setCell ⟨g + 1, 0, none⟩ (.slice B l d)) v x := by
    rintro v x ⟨h0, A', c', e, hi, k1, k2, k3⟩
    exact ⟨h0, A', c', e, (hi.store (x := .slice none 0 0) h1).store (x := .slice none 0 0) h3, k1, k2, k3⟩
  exact ⟨A, c, k, B, d, l, rfl, key hx, key hy, (hb.setCell (p := ⟨g, 0, none⟩) hW _).setCell (p := ⟨g + 1, 0, none⟩) (by show W.heap.size ≤ g + 1; omega) _⟩
theorem PrPost.draw {r : Int × Int × Int} {W w : World} {e : Ending} (h : PrPost r W e w) : PrPost r W e w.drew := by
  obtain ⟨A, c, k, B, d, l, he, hx, hy, hb⟩ := h
  exact ⟨A, c, k, B, d, l, he, hx.below ((Below.refl _ _).drew), hy.below ((Below.refl _ _).drew), hb.drew⟩
/-- The answer of products. -/
def prR (x y z t : Int) : Int × Int × Int := if 200 < (digs (x * y)).length then (0, 0, 3) else (x * y, (lim (z * t)).1, (lim (z * t)).2)
theorem prR_good {x y z t : Int} (h : ¬ (200 < (digs (x * y)).length ∨ 200 < (digs (z * t)).length)) : prR x y z t = (x * y, z * t, 0) := by
  unfold prR
  rw [if_neg (fun e => h (.inl e))]
  unfold lim
  rw [if_neg (fun e => h (.inr e))]
theorem prR_bad {x y z t : Int} (h : 200 < (digs (x * y)).length ∨ 200 < (digs (z * t)).length) : (prR x y z t).2.2 = 3 := by
  unfold prR
  by_cases h1 : 200 < (digs (x * y)).length
  · rw [if_pos h1]
  · rw [if_neg h1]
    rcases h with h | h
    · exact absurd h h1
    · rw [lim_no h]
set_option maxHeartbeats 4000000 in
theorem rprods_any (n c m d n2 c2 m2 d2 : Nat) (x y z t : Int) (A B A2 B2 : Option Addr) (W : World) (hx : NumAt W (.slice A n c) x) (hy : NumAt W (.slice B m d) y) (hz : NumAt W (.slice A2 n2 c2) z) (ht : NumAt W (.slice B2 m2 d2) t) :
    Calls Tryz.prog 44 #[.agg #[.slice A n c], .agg #[.slice B m d], .agg #[.slice A2 n2 c2], .agg #[.slice B2 m2 d2]] W (PrPost (prR x y z t) W) := by
  obtain ⟨G, hG⟩ : ∃ G : World, G = ((((W.alloc (.cells #[.slice A n c] 30)).alloc (.cells #[.slice B m d] 30)).alloc (.cells #[.slice A2 n2 c2] 30)).alloc (.cells #[.slice B2 m2 d2] 30)) := ⟨_, rfl⟩
  obtain ⟨E, hE⟩ : ∃ E : World, E = (G.alloc (.cells #[.slice none 0 0] 30)).alloc (.cells #[.slice none 0 0] 30) := ⟨_, rfl⟩
  have sG : G.heap.size = W.heap.size + 1 + 1 + 1 + 1 := by rw [hG]; simp
  have VW := (((((((LiveA.start W).num ht).num hz).num hy).num hx).new2 (.slice A n c) (.slice B m d) 30).new2 (.slice A2 n2 c2) (.slice B2 m2 d2) 30)
  rw [show ((W.alloc (.cells #[.slice A n c] 30)).alloc (.cells #[.slice B m d] 30)).heap.size = W.heap.size + 1 + 1 by simp, ← hG] at VW
  have BE : Below W.heap.size W E := by rw [hE]; exact btwo VW.2.2 two_box
  have KE : KeptAt (W.heap.size + 1 + 1 + 1 + 1) E ∧ KeptAt (W.heap.size + 1 + 1 + 1 + 1 + 1) E := by
    rw [← sG, hE]
    refine ⟨?_, ?_⟩
    · have := kept_old (w' := (G.alloc (.cells #[.slice none 0 0] 30)).alloc (.cells #[.slice none 0 0] 30)) (show KeptAt G.heap.size (G.alloc (.cells #[.slice none 0 0] 30)) from heap_alloc_new G _) (by simp) ((Below.refl _ _).alloc (Nat.le_refl _) _)
      exact this.1
    · have := heap_alloc_new (G.alloc (.cells #[.slice none 0 0] 30)) (.cells #[.slice none 0 0] 30)
      simpa [KeptAt] using this
  have V0 := Lib.hid (show LiveA E [(⟨W.heap.size + 1 + 1 + 1, 0, none⟩, .slice B2 m2 d2), (⟨W.heap.size + 1 + 1, 0, none⟩, .slice A2 n2 c2), (⟨W.heap.size + 1, 0, none⟩, .slice B m d), (⟨W.heap.size, 0, none⟩, .slice A n c)] [(.slice A n c, x), (.slice B m d, y), (.slice A2 n2 c2, z), (.slice B2 m2 d2, t)] E by
    have h := VW.go (two_box (o1 := .cells #[.slice none 0 0] 30) (o2 := .cells #[.slice none 0 0] 30))
    rw [← hE] at h
    exact ⟨h.1, h.2.1, Below.refl _ _⟩)
  have sE : E.heap.size = W.heap.size + 1 + 1 + 1 + 1 + 1 + 1 := by rw [hE]; simp [sG]
  have HSE := Lib.hid sE
  have HKE := Lib.hid KE
  have HBE := Lib.hid BE
  clear VW KE BE hx hy hz ht sG sE
  subst hG
  subst hE
  by_cases h1 : 200 < (digs (x * y)).length
  · have HR := Lib.hid (show prR x y z t = (0, 0, 3) by unfold prR; rw [if_pos h1])
    have H1 := Lib.hid h1
    clear h1
    go_enter Tryz.func44, Tryz.ntmps44
    obtain ⟨x0_x, y0_x⟩ := V0.out.box (.tail _ (.tail _ (.tail _ (.head _))))
    obtain ⟨x0_y, y0_y⟩ := V0.out.box (.tail _ (.tail _ (.head _)))
    go_wp2_with fail
    refine (rmul_over n c m d _ _ A B _ (V0.out.at (.head _)) (V0.out.at (.tail _ (.head _))) H1.out).mono ?_
    rintro e w1 ⟨Aa, ca, rfl, n1, b1⟩
    clear x0_x y0_x x0_y y0_y
    have U1 := Lib.hid ((V0.out.go b1).num n1)
    clear n1 b1
    have V1 := Lib.hid (U1.out.new (.slice Aa 0 ca) 30)
    have HB9 := Lib.hid (btwo HBE.out V1.out.2.2)
    obtain ⟨q1, q2, q3, q4⟩ := kept_old HKE.out.1 (by rw [HSE.out]; omega) V1.out.2.2
    obtain ⟨r1, r2, r3, r4⟩ := kept_old HKE.out.2 (by rw [HSE.out]; omega) V1.out.2.2
    have HQ := Lib.hid q1
    have HR1 := Lib.hid r1
    clear q1 r1
    obtain ⟨x1_a, y1_a⟩ := V1.out.box (.head _)
    have z1 := (kept_old HKE.out.1 (by rw [HSE.out]; omega) U1.out.2.2).2.2.2
    have u1 := (kept_old HKE.out.2 (by rw [HSE.out]; omega) U1.out.2.2).2.2.2
    have d10 : ¬ w1.heap.size = W.heap.size + 1 + 1 + 1 + 1 := by omega
    have d11 : ¬ W.heap.size + 1 + 1 + 1 + 1 = w1.heap.size := by omega
    have d12 : ¬ w1.heap.size = W.heap.size + 1 + 1 + 1 + 1 + 1 := by omega
    have d13 : ¬ W.heap.size + 1 + 1 + 1 + 1 + 1 = w1.heap.size := by omega
    clear z1 u1
    have NX := Lib.hid (V1.out.at (.head _))
    have NY := Lib.hid (V1.out.at (.head _))
    go_wp2_with fail
    go_region
    go_wp2_with fail
    refine bodyPost_ret (v := .tuple #[.agg #[.slice Aa 0 ca], .agg #[.slice Aa 0 ca], .int .i64 3]) ?_ rfl ?_
    · simp [results, Tryz.results44, go_sem, q2, r2]
    · rw [HR.out]; exact (pr_store (r := (0, 0, 3)) HQ.out HR1.out (by omega) NX.out NY.out HB9.out).draw
  · have HR := Lib.hid (show prR x y z t = (x * y, (lim (z * t)).1, (lim (z * t)).2) by unfold prR; rw [if_neg h1])
    have H1 := Lib.hid (show (digs (x * y)).length ≤ 200 by omega)
    clear h1
    go_enter Tryz.func44, Tryz.ntmps44
    obtain ⟨x0_x, y0_x⟩ := V0.out.box (.tail _ (.tail _ (.tail _ (.head _))))
    obtain ⟨x0_y, y0_y⟩ := V0.out.box (.tail _ (.tail _ (.head _)))
    go_wp2_with fail
    refine (rmul_num n c m d _ _ A B _ (V0.out.at (.head _)) (V0.out.at (.tail _ (.head _))) H1.out).mono ?_
    rintro e w1 ⟨Aa, ca, ka, rfl, n1, b1⟩
    clear x0_x y0_x x0_y y0_y
    have U1 := Lib.hid ((V0.out.go b1).num n1)
    clear n1 b1
    obtain ⟨x1_z, y1_z⟩ := U1.out.box (.tail _ (.head _))
    obtain ⟨x1_t, y1_t⟩ := U1.out.box (.head _)
    have V1 := Lib.hid (U1.out.new (.slice Aa ka ca) 30)
    go_wp2_with fail
    refine (rmul_r n2 c2 m2 d2 _ _ A2 B2 _ (V1.out.at (.tail _ (.tail _ (.tail _ (.head _))))) (V1.out.at (.tail _ (.tail _ (.tail _ (.tail _ (.head _))))))).mono ?_
    rintro e w2 ⟨Ab, cb, kb, rfl, n2, b2⟩
    clear x1_z y1_z x1_t y1_t
    have U2 := Lib.hid ((V1.out.go b2).num n2)
    clear n2 b2
    have V2 := Lib.hid (U2.out.new (.slice Ab kb cb) 30)
    have HB9 := Lib.hid (btwo HBE.out V2.out.2.2)
    obtain ⟨q1, q2, q3, q4⟩ := kept_old HKE.out.1 (by rw [HSE.out]; omega) V2.out.2.2
    obtain ⟨r1, r2, r3, r4⟩ := kept_old HKE.out.2 (by rw [HSE.out]; omega) V2.out.2.2
    have HQ := Lib.hid q1
    have HR1 := Lib.hid r1
    clear q1 r1
    obtain ⟨x2_a, y2_a⟩ := V2.out.box (.tail _ (.head _))
    obtain ⟨x2_b, y2_b⟩ := V2.out.box (.head _)
    have z1 := (kept_old HKE.out.1 (by rw [HSE.out]; omega) U1.out.2.2).2.2.2
    have u1 := (kept_old HKE.out.2 (by rw [HSE.out]; omega) U1.out.2.2).2.2.2
    have d10 : ¬ w1.heap.size = W.heap.size + 1 + 1 + 1 + 1 := by omega
    have d11 : ¬ W.heap.size + 1 + 1 + 1 + 1 = w1.heap.size := by omega
    have d12 : ¬ w1.heap.size = W.heap.size + 1 + 1 + 1 + 1 + 1 := by omega
    have d13 : ¬ W.heap.size + 1 + 1 + 1 + 1 + 1 = w1.heap.size := by omega
    clear z1 u1
    have z2 := (kept_old HKE.out.1 (by rw [HSE.out]; omega) U2.out.2.2).2.2.2
    have u2 := (kept_old HKE.out.2 (by rw [HSE.out]; omega) U2.out.2.2).2.2.2
    have d20 : ¬ w2.heap.size = W.heap.size + 1 + 1 + 1 + 1 := by omega
    have d21 : ¬ W.heap.size + 1 + 1 + 1 + 1 = w2.heap.size := by omega
    have d22 : ¬ w2.heap.size = W.heap.size + 1 + 1 + 1 + 1 + 1 := by omega
    have d23 : ¬ W.heap.size + 1 + 1 + 1 + 1 + 1 = w2.heap.size := by omega
    clear z2 u2
    have NX := Lib.hid (V2.out.at (.tail _ (.head _)))
    have NY := Lib.hid (V2.out.at (.head _))
    go_wp2_with fail
    go_region
    go_wp2_with fail
    refine bodyPost_ret (v := .tuple #[.agg #[.slice Aa ka ca], .agg #[.slice Ab kb cb], .int .i64 (lim (z * t)).2]) ?_ rfl ?_
    · simp [results, Tryz.results44, go_sem, q2, r2]
    · rw [HR.out]; exact (pr_store (r := (x * y, (lim (z * t)).1, (lim (z * t)).2)) HQ.out HR1.out (by omega) NX.out NY.out HB9.out).draw
end Go.Proofs.YtkfkefgkepoaaaaGreatDoor
/- Contracts of Div of fractions, both sides. -/
namespace Go.Proofs.YtkfkefgkepoaaaaGreatDoor
open Go.RowKit
set_option linter.unusedVariables false
set_option maxRecDepth 100000

/-- The answer of Div on valid fractions. -/
def quoR (s s2 : Bool) (p q r t : Int) : Bool × Int × Int × Int := if r = 0 then (false, 0, 0, 6) else prodR s s2 p q t r
theorem pos_of {w : World} {A : Option Addr} {n c : Nat} {x : Int} (h : NumAt w (.slice A n c) x) (h0 : ¬ x = 0) : 0 < x := by have := h.1; omega
end Go.Proofs.YtkfkefgkepoaaaaGreatDoor
/- Contracts of the program's difference of fractions. -/
namespace Go.Proofs.YtkfkefgkepoaaaaGreatDoor
open Go.RowKit
set_option linter.unusedVariables false
set_option maxRecDepth 100000

set_option maxHeartbeats 4000000 in
theorem diff_any (s : Bool) (n c m d l k : Nat) (x y z : Int) (A B C : Option Addr) (W : World) (hx : NumAt W (.slice A n c) x) (hy : NumAt W (.slice B m d) y) (hz : NumAt W (.slice C l k) z) (hz0 : 0 < z) (v : Int) (sv : Bool) (hv : v = if x < y then y - x else x - y) (hs : sv = if x < y then !s else s) :
    Calls Tryz.prog 38 #[.bool s, .agg #[.slice A n c], .agg #[.slice B m d], .agg #[.slice C l k]] W (FrPost (sv && !decide (v / gcdI v z = 0)) (v / gcdI v z) (z / gcdI v z) W) := by
  obtain ⟨G, hG⟩ : ∃ G : World, G = (((W.alloc (.cells #[.slice A n c] 30)).alloc (.cells #[.slice B m d] 30)).alloc (.cells #[.slice C l k] 30)) := ⟨_, rfl⟩
  obtain ⟨E, hE⟩ : ∃ E : World, E = G.alloc (.cells #[.bool false, .slice none 0 0, .slice none 0 0] 32) := ⟨_, rfl⟩
  have sG : G.heap.size = W.heap.size + 1 + 1 + 1 := by rw [hG]; simp
  have VW := ((((((BoxesW.start W 30).num hz).num hy).num hx).new A n c).new B m d).new C l k
  rw [show ((W.alloc (.cells #[.slice A n c] 30)).alloc (.cells #[.slice B m d] 30)).heap.size = W.heap.size + 1 + 1 by simp, show (W.alloc (.cells #[.slice A n c] 30)).heap.size = W.heap.size + 1 by simp, ← hG] at VW
  have V0 := Lib.hid (show BoxesW W 30 [(W.heap.size + 1 + 1, .slice C l k), (W.heap.size + 1, .slice B m d), (W.heap.size, .slice A n c)] [(.slice A n c, x), (.slice B m d, y), (.slice C l k, z)] E by
    have h := VW.go (one_new (o := .cells #[.bool false, .slice none 0 0, .slice none 0 0] 32))
    rw [← hE] at h
    exact h)
  have HKE := Lib.hid (show KeptF (W.heap.size + 1 + 1 + 1) E by
    have := keptF_new G
    rw [← hE, sG] at this
    exact this)
  have HG := Lib.hid (show 0 < gcdI v z by rw [gcdI_comm]; exact gcdI_pos hz0)
  have HZ := Lib.hid hz0
  clear VW hx hy hz sG hz0
  subst hG
  subst hE
  by_cases hlt : x < y
  · rw [if_pos hlt] at hv hs
    have HV := Lib.hid hv
    clear hv
    subst hs
    have dl : decide (sgn (x - y) < 0) = true := decide_eq_true (by rw [sgn_lt (by omega)]; omega)
    have HLT := Lib.hid hlt
    clear hlt
    go_enter Tryz.func38, Tryz.ntmps38
    go_wp2_with fail
    refine (cmp_num n c m d x y A B _ (V0.out.at (.head _)) (V0.out.at (.tail _ (.head _)))).mono ?_
    rintro e w1 ⟨rfl, b1⟩
    have V1 := Lib.hid (V0.out.go b1)
    have K1 := Lib.hid (HKE.out.go b1)
    clear b1
    obtain ⟨p3, p4, p5⟩ := V1.out.box (.tail _ (.head _))
    obtain ⟨p6, p7, p8⟩ := V1.out.box (.tail _ (.tail _ (.head _)))
    go_wp2_with fail
    clear p3 p4 p5 p6 p7 p8
    have V2 := Lib.hid (((V1.out.set (g := W.heap.size) (.tail _ (.tail _ (.head _))) B m d).set (g := W.heap.size + 1) (v := .slice B m d) (by simp) A n c).sub (lb' := [(W.heap.size + 1 + 1, .slice C l k), (W.heap.size + 1, .slice A n c), (W.heap.size, .slice B m d)]) (by intro q hq; simp only [List.mem_cons, List.not_mem_nil, or_false, List.map_cons, List.map_nil] at hq ⊢; rcases hq with rfl | rfl | rfl <;> simp <;> omega) (fun _ h => h))
    have K2 := Lib.hid (show KeptF (W.heap.size + 1 + 1 + 1) ((w1.setCell ⟨W.heap.size, 0, none⟩ (.slice B m d)).setCell ⟨W.heap.size + 1, 0, none⟩ (.slice A n c)) by
      have h := K1.out
      unfold KeptF at *
      rw [Below.heap_setCell _ _ _ _ (by show ¬ W.heap.size + 1 + 1 + 1 = W.heap.size + 1; omega), Below.heap_setCell _ _ _ _ (by show ¬ W.heap.size + 1 + 1 + 1 = W.heap.size; omega)]
      exact h)
    refine (sub_num m d n c y x B A _ (V2.out.at (.tail _ (.head _))) (V2.out.at (.head _)) (Int.le_of_lt HLT.out)).mono ?_
    rintro e w7 ⟨Av, cv, kv, rfl, n7, b7⟩
    rw [← HV.out] at n7
    have V7 := Lib.hid ((((V2.out.go b7).num n7)).go (one_new (o := .cells #[.slice Av kv cv] 30)))
    have K7 := Lib.hid ((K2.out.go b7).go (one_new (o := .cells #[.slice Av kv cv] 30)))
    have R7 := row_cell (heap_alloc_new w7 (.cells #[.slice Av kv cv] 30))
    clear n7 b7
    obtain ⟨p6, p7, p8⟩ := V7.out.box (.head _)
    go_wp2_with fail
    refine (lowest_num (!s) kv cv l k v z Av C _ (V7.out.at (.head _)) (V7.out.at (.tail _ (.tail _ (.tail _ (.head _))))) HG.out).mono ?_
    rintro e w8 ⟨Ay, cy, ky, Az, cz, kz, rfl, n8, m8, b8⟩
    clear p6 p7 p8
    have HB9 := Lib.hid (btwo V7.out.2.2 b8)
    have N8 := Lib.hid n8
    have M8 := Lib.hid m8
    have K8 := Lib.hid (K7.out.go b8)
    clear n8 m8 b8
    obtain ⟨k0, k1, k2, k3, k4, k5, k6⟩ := K8.out.facts
    go_wp2_with fail
    refine bodyPost_ret (v := .agg #[.bool ((!s) && !decide (v / gcdI v z = 0)), .slice Ay ky cy, .slice Az kz cz]) ?_ rfl ?_
    · simp [results, Tryz.results38, go_sem, k0, k1, k2]
    · exact fr_store' K8.out (by omega) N8.out M8.out HB9.out
  · rw [if_neg hlt] at hv hs
    have dl : decide (sgn (x - y) < 0) = false := decide_eq_false (by have := sgn_le (a := -(x - y)) (by omega); rw [sgn_neg] at this; omega)
    have HLE := Lib.hid (show y ≤ x by omega)
    have HV := Lib.hid hv
    clear hlt hv
    subst hs
    go_enter Tryz.func38, Tryz.ntmps38
    go_wp2_with fail
    refine (cmp_num n c m d x y A B _ (V0.out.at (.head _)) (V0.out.at (.tail _ (.head _)))).mono ?_
    rintro e w1 ⟨rfl, b1⟩
    have V1 := Lib.hid (V0.out.go b1)
    have K1 := Lib.hid (HKE.out.go b1)
    clear b1
    obtain ⟨p0, p1, p2⟩ := V1.out.box (.head _)
    obtain ⟨p3, p4, p5⟩ := V1.out.box (.tail _ (.head _))
    obtain ⟨p6, p7, p8⟩ := V1.out.box (.tail _ (.tail _ (.head _)))
    go_wp2_with fail
    refine (sub_num n c m d x y A B _ (V1.out.at (.head _)) (V1.out.at (.tail _ (.head _))) HLE.out).mono ?_
    rintro e w7 ⟨Av, cv, kv, rfl, n7, b7⟩
    rw [← HV.out] at n7
    clear p0 p1 p2 p3 p4 p5 p6 p7 p8
    have V7 := Lib.hid ((((V1.out.go b7).num n7)).go (one_new (o := .cells #[.slice Av kv cv] 30)))
    have K7 := Lib.hid ((K1.out.go b7).go (one_new (o := .cells #[.slice Av kv cv] 30)))
    have R7 := row_cell (heap_alloc_new w7 (.cells #[.slice Av kv cv] 30))
    clear n7 b7
    obtain ⟨p6, p7, p8⟩ := V7.out.box (.head _)
    go_wp2_with fail
    refine (lowest_num sv kv cv l k v z Av C _ (V7.out.at (.head _)) (V7.out.at (.tail _ (.tail _ (.tail _ (.head _))))) HG.out).mono ?_
    rintro e w8 ⟨Ay, cy, ky, Az, cz, kz, rfl, n8, m8, b8⟩
    clear p6 p7 p8
    have HB9 := Lib.hid (btwo V7.out.2.2 b8)
    have N8 := Lib.hid n8
    have M8 := Lib.hid m8
    have K8 := Lib.hid (K7.out.go b8)
    clear n8 m8 b8
    obtain ⟨k0, k1, k2, k3, k4, k5, k6⟩ := K8.out.facts
    go_wp2_with fail
    refine bodyPost_ret (v := .agg #[.bool (sv && !decide (v / gcdI v z = 0)), .slice Ay ky cy, .slice Az kz cz]) ?_ rfl ?_
    · simp [results, Tryz.results38, go_sem, k0, k1, k2]
    · exact fr_store' K8.out (by omega) N8.out M8.out HB9.out
end Go.Proofs.YtkfkefgkepoaaaaGreatDoor
/- Contract of the program's sum of fractions. -/
namespace Go.Proofs.YtkfkefgkepoaaaaGreatDoor
open Go.RowKit
set_option linter.unusedVariables false
set_option maxRecDepth 100000

/-- The answer of sum. -/
def sumR (s s2 : Bool) (p q r t : Int) : Bool × Int × Int × Int :=
  if 200 < (digs (p * t)).length ∨ 200 < (digs (r * q)).length ∨ 200 < (digs (q * t)).length then (false, 0, 0, 3) else
  if (s != s2) = true then low (if p * t < r * q then !s else s) (if p * t < r * q then r * q - p * t else p * t - r * q) (q * t) else
  if 200 < (digs (p * t + r * q)).length then (false, 0, 0, 3) else low s (p * t + r * q) (q * t)
set_option maxHeartbeats 4000000 in
theorem sum3_any (s s2 : Bool) (n c m d n2 c2 m2 d2 : Nat) (p q r t : Int) (A B A2 B2 : Option Addr) (W : World) (hp : NumAt W (.slice A n c) p) (hq : NumAt W (.slice B m d) q) (hr : NumAt W (.slice A2 n2 c2) r) (ht : NumAt W (.slice B2 m2 d2) t) (hq0 : 0 < q) (ht0 : 0 < t) :
    Calls Tryz.prog 19 #[.agg #[.bool s, .slice A n c, .slice B m d], .agg #[.bool s2, .slice A2 n2 c2, .slice B2 m2 d2]] W (FrE (sumR s s2 p q r t) W) := by
  obtain ⟨E, hE⟩ : ∃ E : World, E = ((W.alloc (.cells #[.bool s, .slice A n c, .slice B m d] 32)).alloc (.cells #[.bool s2, .slice A2 n2 c2, .slice B2 m2 d2] 32)).alloc (.cells #[.bool false, .slice none 0 0, .slice none 0 0] 32) := ⟨_, rfl⟩
  have BE : Below W.heap.size W E := by rw [hE]; exact btwo two_box one_new
  have KE : KeptF (W.heap.size + 1 + 1) E := by
    have := keptF_new ((W.alloc (.cells #[.bool s, .slice A n c, .slice B m d] 32)).alloc (.cells #[.bool s2, .slice A2 n2 c2, .slice B2 m2 d2] 32))
    rw [← hE] at this
    simpa using this
  have VW := ((((((LiveA.start W).num ht).num hr).num hq).num hp).newF (.bool s) (.slice A n c) (.slice B m d) 32).newF (.bool s2) (.slice A2 n2 c2) (.slice B2 m2 d2) 32
  rw [show (W.alloc (.cells #[.bool s, .slice A n c, .slice B m d] 32)).heap.size = W.heap.size + 1 by simp] at VW
  have V0 := Lib.hid (show LiveA E [(⟨W.heap.size + 1, 2, none⟩, .slice B2 m2 d2), (⟨W.heap.size + 1, 1, none⟩, .slice A2 n2 c2), (⟨W.heap.size + 1, 0, none⟩, .bool s2), (⟨W.heap.size, 2, none⟩, .slice B m d), (⟨W.heap.size, 1, none⟩, .slice A n c), (⟨W.heap.size, 0, none⟩, .bool s)] [(.slice A n c, p), (.slice B m d, q), (.slice A2 n2 c2, r), (.slice B2 m2 d2, t)] E by
    have h := VW.go (one_new (o := .cells #[.bool false, .slice none 0 0, .slice none 0 0] 32))
    rw [← hE] at h
    exact ⟨h.1, h.2.1, Below.refl _ _⟩)
  have HKE := Lib.hid KE
  have HBE := Lib.hid BE
  have PP := hp.1
  have PR := hr.1
  clear VW KE BE hp hq hr ht
  subst hE
  by_cases h1 : 200 < (digs (p * t)).length
  · have HR := Lib.hid (show sumR s s2 p q r t = (false, 0, 0, 3) by unfold sumR; rw [if_pos (.inl h1)])
    have H1 := Lib.hid h1
    clear h1
    go_enter Tryz.func19, Tryz.ntmps19
    obtain ⟨x0_f1, y0_f1⟩ := V0.out.box (.tail _ (.tail _ (.tail _ (.tail _ (.head _)))))
    obtain ⟨x0_g2, y0_g2⟩ := V0.out.box (.head _)
    go_wp2_with fail
    refine (mul_over n c m2 d2 _ _ A B2 _ (V0.out.at (.head _)) (V0.out.at (.tail _ (.tail _ (.tail _ (.head _))))) H1.out).mono ?_
    rintro e w1 ⟨Aa, ca, rfl, n1, b1⟩
    clear x0_f1 y0_f1 x0_g2 y0_g2
    have U1 := Lib.hid ((V0.out.go b1).num n1)
    clear n1 b1
    obtain ⟨x1_g1, y1_g1⟩ := U1.out.box (.tail _ (.head _))
    obtain ⟨x1_f2, y1_f2⟩ := U1.out.box (.tail _ (.tail _ (.tail _ (.head _))))
    have V1 := Lib.hid (U1.out.new (.slice Aa 0 ca) 30)
    go_wp2_with fail
    refine (mul_r n2 c2 m d _ _ A2 B _ (V1.out.at (.tail _ (.tail _ (.tail _ (.head _))))) (V1.out.at (.tail _ (.tail _ (.head _))))).mono ?_
    rintro e w2 ⟨Ab, cb, kb, rfl, n2, b2⟩
    clear x1_g1 y1_g1 x1_f2 y1_f2
    have U2 := Lib.hid ((V1.out.go b2).num n2)
    clear n2 b2
    obtain ⟨x2_f2, y2_f2⟩ := U2.out.box (.tail _ (.tail _ (.tail _ (.tail _ (.head _)))))
    obtain ⟨x2_g2, y2_g2⟩ := U2.out.box (.tail _ (.head _))
    have V2 := Lib.hid (U2.out.new (.slice Ab kb cb) 30)
    go_wp2_with fail
    refine (mul_r m d m2 d2 _ _ B B2 _ (V2.out.at (.tail _ (.tail _ (.tail _ (.head _))))) (V2.out.at (.tail _ (.tail _ (.tail _ (.tail _ (.tail _ (.head _)))))))).mono ?_
    rintro e w3 ⟨Ao, co, ko, rfl, n3, b3⟩
    clear x2_f2 y2_f2 x2_g2 y2_g2
    have U3 := Lib.hid ((V2.out.go b3).num n3)
    clear n3 b3
    have V3 := Lib.hid (U3.out.new (.slice Ao ko co) 30)
    have HK9 := Lib.hid (HKE.out.go V3.out.2.2)
    have HB9 := Lib.hid (btwo HBE.out V3.out.2.2)
    obtain ⟨j0, j1, j2, j3, j4, j5, j6⟩ := HK9.out.facts
    go_wp2_with fail
    refine bodyPost_ret (v := .tuple #[.agg #[.bool false, .slice none 0 0, .slice none 0 0], .int .i64 3]) ?_ rfl ?_
    · simp [results, Tryz.results19, go_sem, j0, j1, j2]
    · rw [HR.out]; exact (fr_err (g := W.heap.size + 1 + 1) (by omega) HB9.out).any
  by_cases h2 : 200 < (digs (r * q)).length
  · have HR := Lib.hid (show sumR s s2 p q r t = (false, 0, 0, 3) by unfold sumR; rw [if_pos (.inr (.inl h2))])
    have H1 := Lib.hid (show (digs (p * t)).length ≤ 200 by omega)
    have H2 := Lib.hid h2
    clear h1 h2
    go_enter Tryz.func19, Tryz.ntmps19
    obtain ⟨x0_f1, y0_f1⟩ := V0.out.box (.tail _ (.tail _ (.tail _ (.tail _ (.head _)))))
    obtain ⟨x0_g2, y0_g2⟩ := V0.out.box (.head _)
    go_wp2_with fail
    refine (mul_num n c m2 d2 _ _ A B2 _ (V0.out.at (.head _)) (V0.out.at (.tail _ (.tail _ (.tail _ (.head _))))) H1.out).mono ?_
    rintro e w1 ⟨Aa, ca, ka, rfl, n1, b1⟩
    clear x0_f1 y0_f1 x0_g2 y0_g2
    have U1 := Lib.hid ((V0.out.go b1).num n1)
    clear n1 b1
    obtain ⟨x1_g1, y1_g1⟩ := U1.out.box (.tail _ (.head _))
    obtain ⟨x1_f2, y1_f2⟩ := U1.out.box (.tail _ (.tail _ (.tail _ (.head _))))
    have V1 := Lib.hid (U1.out.new (.slice Aa ka ca) 30)
    go_wp2_with fail
    refine (mul_over n2 c2 m d _ _ A2 B _ (V1.out.at (.tail _ (.tail _ (.tail _ (.head _))))) (V1.out.at (.tail _ (.tail _ (.head _)))) H2.out).mono ?_
    rintro e w2 ⟨Ab, cb, rfl, n2, b2⟩
    clear x1_g1 y1_g1 x1_f2 y1_f2
    have U2 := Lib.hid ((V1.out.go b2).num n2)
    clear n2 b2
    obtain ⟨x2_f2, y2_f2⟩ := U2.out.box (.tail _ (.tail _ (.tail _ (.tail _ (.head _)))))
    obtain ⟨x2_g2, y2_g2⟩ := U2.out.box (.tail _ (.head _))
    have V2 := Lib.hid (U2.out.new (.slice Ab 0 cb) 30)
    go_wp2_with fail
    refine (mul_r m d m2 d2 _ _ B B2 _ (V2.out.at (.tail _ (.tail _ (.tail _ (.head _))))) (V2.out.at (.tail _ (.tail _ (.tail _ (.tail _ (.tail _ (.head _)))))))).mono ?_
    rintro e w3 ⟨Ao, co, ko, rfl, n3, b3⟩
    clear x2_f2 y2_f2 x2_g2 y2_g2
    have U3 := Lib.hid ((V2.out.go b3).num n3)
    clear n3 b3
    have V3 := Lib.hid (U3.out.new (.slice Ao ko co) 30)
    have HK9 := Lib.hid (HKE.out.go V3.out.2.2)
    have HB9 := Lib.hid (btwo HBE.out V3.out.2.2)
    obtain ⟨j0, j1, j2, j3, j4, j5, j6⟩ := HK9.out.facts
    go_wp2_with fail
    refine bodyPost_ret (v := .tuple #[.agg #[.bool false, .slice none 0 0, .slice none 0 0], .int .i64 3]) ?_ rfl ?_
    · simp [results, Tryz.results19, go_sem, j0, j1, j2]
    · rw [HR.out]; exact (fr_err (g := W.heap.size + 1 + 1) (by omega) HB9.out).any
  by_cases h3 : 200 < (digs (q * t)).length
  · have HR := Lib.hid (show sumR s s2 p q r t = (false, 0, 0, 3) by unfold sumR; rw [if_pos (.inr (.inr h3))])
    have H1 := Lib.hid (show (digs (p * t)).length ≤ 200 by omega)
    have H2 := Lib.hid (show (digs (r * q)).length ≤ 200 by omega)
    have H3 := Lib.hid h3
    clear h1 h2 h3
    go_enter Tryz.func19, Tryz.ntmps19
    obtain ⟨x0_f1, y0_f1⟩ := V0.out.box (.tail _ (.tail _ (.tail _ (.tail _ (.head _)))))
    obtain ⟨x0_g2, y0_g2⟩ := V0.out.box (.head _)
    go_wp2_with fail
    refine (mul_num n c m2 d2 _ _ A B2 _ (V0.out.at (.head _)) (V0.out.at (.tail _ (.tail _ (.tail _ (.head _))))) H1.out).mono ?_
    rintro e w1 ⟨Aa, ca, ka, rfl, n1, b1⟩
    clear x0_f1 y0_f1 x0_g2 y0_g2
    have U1 := Lib.hid ((V0.out.go b1).num n1)
    clear n1 b1
    obtain ⟨x1_g1, y1_g1⟩ := U1.out.box (.tail _ (.head _))
    obtain ⟨x1_f2, y1_f2⟩ := U1.out.box (.tail _ (.tail _ (.tail _ (.head _))))
    have V1 := Lib.hid (U1.out.new (.slice Aa ka ca) 30)
    go_wp2_with fail
    refine (mul_num n2 c2 m d _ _ A2 B _ (V1.out.at (.tail _ (.tail _ (.tail _ (.head _))))) (V1.out.at (.tail _ (.tail _ (.head _)))) H2.out).mono ?_
    rintro e w2 ⟨Ab, cb, kb, rfl, n2, b2⟩
    clear x1_g1 y1_g1 x1_f2 y1_f2
    have U2 := Lib.hid ((V1.out.go b2).num n2)
    clear n2 b2
    obtain ⟨x2_f2, y2_f2⟩ := U2.out.box (.tail _ (.tail _ (.tail _ (.tail _ (.head _)))))
    obtain ⟨x2_g2, y2_g2⟩ := U2.out.box (.tail _ (.head _))
    have V2 := Lib.hid (U2.out.new (.slice Ab kb cb) 30)
    go_wp2_with fail
    refine (mul_over m d m2 d2 _ _ B B2 _ (V2.out.at (.tail _ (.tail _ (.tail _ (.head _))))) (V2.out.at (.tail _ (.tail _ (.tail _ (.tail _ (.tail _ (.head _))))))) H3.out).mono ?_
    rintro e w3 ⟨Ao, co, rfl, n3, b3⟩
    clear x2_f2 y2_f2 x2_g2 y2_g2
    have U3 := Lib.hid ((V2.out.go b3).num n3)
    clear n3 b3
    have V3 := Lib.hid (U3.out.new (.slice Ao 0 co) 30)
    have HK9 := Lib.hid (HKE.out.go V3.out.2.2)
    have HB9 := Lib.hid (btwo HBE.out V3.out.2.2)
    obtain ⟨j0, j1, j2, j3, j4, j5, j6⟩ := HK9.out.facts
    go_wp2_with fail
    refine bodyPost_ret (v := .tuple #[.agg #[.bool false, .slice none 0 0, .slice none 0 0], .int .i64 3]) ?_ rfl ?_
    · simp [results, Tryz.results19, go_sem, j0, j1, j2]
    · rw [HR.out]; exact (fr_err (g := W.heap.size + 1 + 1) (by omega) HB9.out).any
  have HS := Lib.hid (show sumR s s2 p q r t = (if (s != s2) = true then low (if p * t < r * q then !s else s) (if p * t < r * q then r * q - p * t else p * t - r * q) (q * t) else if 200 < (digs (p * t + r * q)).length then (false, 0, 0, 3) else low s (p * t + r * q) (q * t)) by unfold sumR; rw [if_neg (fun h => h.elim h1 (fun h => h.elim h2 h3))])
  have H1 := Lib.hid (show (digs (p * t)).length ≤ 200 by omega)
  have H2 := Lib.hid (show (digs (r * q)).length ≤ 200 by omega)
  have H3 := Lib.hid (show (digs (q * t)).length ≤ 200 by omega)
  have HQT := Lib.hid (Int.mul_pos hq0 ht0)
  clear h1 h2 h3
  by_cases hne : (s != s2) = true
  · have HR := Lib.hid (HS.out.trans (if_pos hne))
    obtain ⟨v9, hv⟩ : ∃ v, v = if p * t < r * q then r * q - p * t else p * t - r * q := ⟨_, rfl⟩
    obtain ⟨s9, hs⟩ : ∃ v, v = if p * t < r * q then !s else s := ⟨_, rfl⟩
    have HV := Lib.hid hv
    have HS9 := Lib.hid hs
    have hnb : (!(s == s2)) = true := by revert hne; cases s <;> cases s2 <;> simp
    clear hv hs
    go_enter Tryz.func19, Tryz.ntmps19
    obtain ⟨x0_f1, y0_f1⟩ := V0.out.box (.tail _ (.tail _ (.tail _ (.tail _ (.head _)))))
    obtain ⟨x0_g2, y0_g2⟩ := V0.out.box (.head _)
    go_wp2_with fail
    refine (mul_num n c m2 d2 _ _ A B2 _ (V0.out.at (.head _)) (V0.out.at (.tail _ (.tail _ (.tail _ (.head _))))) H1.out).mono ?_
    rintro e w1 ⟨Aa, ca, ka, rfl, n1, b1⟩
    clear x0_f1 y0_f1 x0_g2 y0_g2
    have U1 := Lib.hid ((V0.out.go b1).num n1)
    clear n1 b1
    obtain ⟨x1_g1, y1_g1⟩ := U1.out.box (.tail _ (.head _))
    obtain ⟨x1_f2, y1_f2⟩ := U1.out.box (.tail _ (.tail _ (.tail _ (.head _))))
    have V1 := Lib.hid (U1.out.new (.slice Aa ka ca) 30)
    go_wp2_with fail
    refine (mul_num n2 c2 m d _ _ A2 B _ (V1.out.at (.tail _ (.tail _ (.tail _ (.head _))))) (V1.out.at (.tail _ (.tail _ (.head _)))) H2.out).mono ?_
    rintro e w2 ⟨Ab, cb, kb, rfl, n2, b2⟩
    clear x1_g1 y1_g1 x1_f2 y1_f2
    have U2 := Lib.hid ((V1.out.go b2).num n2)
    clear n2 b2
    obtain ⟨x2_f2, y2_f2⟩ := U2.out.box (.tail _ (.tail _ (.tail _ (.tail _ (.head _)))))
    obtain ⟨x2_g2, y2_g2⟩ := U2.out.box (.tail _ (.head _))
    have V2 := Lib.hid (U2.out.new (.slice Ab kb cb) 30)
    go_wp2_with fail
    refine (mul_num m d m2 d2 _ _ B B2 _ (V2.out.at (.tail _ (.tail _ (.tail _ (.head _))))) (V2.out.at (.tail _ (.tail _ (.tail _ (.tail _ (.tail _ (.head _))))))) H3.out).mono ?_
    rintro e w3 ⟨Ao, co, ko, rfl, n3, b3⟩
    clear x2_f2 y2_f2 x2_g2 y2_g2
    have U3 := Lib.hid ((V2.out.go b3).num n3)
    clear n3 b3
    have V3 := Lib.hid (U3.out.new (.slice Ao ko co) 30)
    obtain ⟨x3_f0, y3_f0⟩ := V3.out.box (.tail _ (.tail _ (.tail _ (.tail _ (.tail _ (.tail _ (.tail _ (.tail _ (.head _)))))))))
    obtain ⟨x3_g0, y3_g0⟩ := V3.out.box (.tail _ (.tail _ (.tail _ (.tail _ (.tail _ (.head _))))))
    obtain ⟨x3_a, y3_a⟩ := V3.out.box (.tail _ (.tail _ (.head _)))
    obtain ⟨x3_b, y3_b⟩ := V3.out.box (.tail _ (.head _))
    obtain ⟨x3_o, y3_o⟩ := V3.out.box (.head _)
    have HB8 := Lib.hid (btwo HBE.out V3.out.2.2)
    go_wp2_with fail
    refine (diff_any s ka ca kb cb ko co (p * t) (r * q) (q * t) Aa Ab Ao _ (V3.out.at (.tail _ (.tail _ (.head _)))) (V3.out.at (.tail _ (.head _))) (V3.out.at (.head _)) HQT.out v9 s9 HV.out HS9.out).mono ?_
    rintro e w8 ⟨Ay, cy, ky, Az, cz, kz, rfl, n8, m8, b8⟩
    clear x3_f0 y3_f0 x3_g0 y3_g0 x3_a y3_a x3_b y3_b x3_o y3_o
    have HB9 := Lib.hid (btwo HB8.out b8)
    have N8 := Lib.hid n8
    have M8 := Lib.hid m8
    have K8 := Lib.hid ((HKE.out.go V3.out.2.2).go b8)
    clear n8 m8 b8
    obtain ⟨k0, k1, k2, k3, k4, k5, k6⟩ := K8.out.facts
    go_wp2_with fail
    refine bodyPost_ret (v := .tuple #[.agg #[.bool (s9 && !decide (v9 / gcdI v9 (q * t) = 0)), .slice Ay ky cy, .slice Az kz cz], .int .i64 0]) ?_ rfl ?_
    · simp [results, Tryz.results19, go_sem, k0, k1, k2]
    · rw [HR.out, ← HV.out, ← HS9.out]; exact (fr_ok K8.out (by omega) N8.out M8.out HB9.out).any
  · have HR0 := Lib.hid (HS.out.trans (if_neg hne))
    have hne : (s != s2) = false := by simpa using hne
    by_cases h4 : 200 < (digs (p * t + r * q)).length
    · have HR := Lib.hid (HR0.out.trans (if_pos h4))
      have H4 := Lib.hid h4
      clear h4
      go_enter Tryz.func19, Tryz.ntmps19
      obtain ⟨x0_f1, y0_f1⟩ := V0.out.box (.tail _ (.tail _ (.tail _ (.tail _ (.head _)))))
      obtain ⟨x0_g2, y0_g2⟩ := V0.out.box (.head _)
      go_wp2_with fail
      refine (mul_num n c m2 d2 _ _ A B2 _ (V0.out.at (.head _)) (V0.out.at (.tail _ (.tail _ (.tail _ (.head _))))) H1.out).mono ?_
      rintro e w1 ⟨Aa, ca, ka, rfl, n1, b1⟩
      clear x0_f1 y0_f1 x0_g2 y0_g2
      have U1 := Lib.hid ((V0.out.go b1).num n1)
      clear n1 b1
      obtain ⟨x1_g1, y1_g1⟩ := U1.out.box (.tail _ (.head _))
      obtain ⟨x1_f2, y1_f2⟩ := U1.out.box (.tail _ (.tail _ (.tail _ (.head _))))
      have V1 := Lib.hid (U1.out.new (.slice Aa ka ca) 30)
      go_wp2_with fail
      refine (mul_num n2 c2 m d _ _ A2 B _ (V1.out.at (.tail _ (.tail _ (.tail _ (.head _))))) (V1.out.at (.tail _ (.tail _ (.head _)))) H2.out).mono ?_
      rintro e w2 ⟨Ab, cb, kb, rfl, n2, b2⟩
      clear x1_g1 y1_g1 x1_f2 y1_f2
      have U2 := Lib.hid ((V1.out.go b2).num n2)
      clear n2 b2
      obtain ⟨x2_f2, y2_f2⟩ := U2.out.box (.tail _ (.tail _ (.tail _ (.tail _ (.head _)))))
      obtain ⟨x2_g2, y2_g2⟩ := U2.out.box (.tail _ (.head _))
      have V2 := Lib.hid (U2.out.new (.slice Ab kb cb) 30)
      go_wp2_with fail
      refine (mul_num m d m2 d2 _ _ B B2 _ (V2.out.at (.tail _ (.tail _ (.tail _ (.head _))))) (V2.out.at (.tail _ (.tail _ (.tail _ (.tail _ (.tail _ (.head _))))))) H3.out).mono ?_
      rintro e w3 ⟨Ao, co, ko, rfl, n3, b3⟩
      clear x2_f2 y2_f2 x2_g2 y2_g2
      have U3 := Lib.hid ((V2.out.go b3).num n3)
      clear n3 b3
      have V3 := Lib.hid (U3.out.new (.slice Ao ko co) 30)
      obtain ⟨x3_f0, y3_f0⟩ := V3.out.box (.tail _ (.tail _ (.tail _ (.tail _ (.tail _ (.tail _ (.tail _ (.tail _ (.head _)))))))))
      obtain ⟨x3_g0, y3_g0⟩ := V3.out.box (.tail _ (.tail _ (.tail _ (.tail _ (.tail _ (.head _))))))
      obtain ⟨x3_a, y3_a⟩ := V3.out.box (.tail _ (.tail _ (.head _)))
      obtain ⟨x3_b, y3_b⟩ := V3.out.box (.tail _ (.head _))
      go_wp2_with fail
      refine (add_over ka ca kb cb _ _ Aa Ab _ (V3.out.at (.tail _ (.tail _ (.head _)))) (V3.out.at (.tail _ (.head _))) H4.out).mono ?_
      rintro e w4 ⟨Au, cu, rfl, n4, b4⟩
      clear x3_f0 y3_f0 x3_g0 y3_g0 x3_a y3_a x3_b y3_b
      have U4 := Lib.hid ((V3.out.go b4).num n4)
      clear n4 b4
      have V4 := Lib.hid (U4.out.new (.slice Au 0 cu) 30)
      have HK9 := Lib.hid (HKE.out.go V4.out.2.2)
      have HB9 := Lib.hid (btwo HBE.out V4.out.2.2)
      obtain ⟨j0, j1, j2, j3, j4, j5, j6⟩ := HK9.out.facts
      go_wp2_with fail
      refine bodyPost_ret (v := .tuple #[.agg #[.bool false, .slice none 0 0, .slice none 0 0], .int .i64 3]) ?_ rfl ?_
      · simp [results, Tryz.results19, go_sem, j0, j1, j2]
      · rw [HR.out]; exact (fr_err (g := W.heap.size + 1 + 1) (by omega) HB9.out).any
    · have HR := Lib.hid (HR0.out.trans (if_neg h4))
      have H4 := Lib.hid (show (digs (p * t + r * q)).length ≤ 200 by omega)
      have HG := Lib.hid (show 0 < gcdI (p * t + r * q) (q * t) by rw [gcdI_comm]; exact gcdI_pos HQT.out)
      clear h4
      go_enter Tryz.func19, Tryz.ntmps19
      obtain ⟨x0_f1, y0_f1⟩ := V0.out.box (.tail _ (.tail _ (.tail _ (.tail _ (.head _)))))
      obtain ⟨x0_g2, y0_g2⟩ := V0.out.box (.head _)
      go_wp2_with fail
      refine (mul_num n c m2 d2 _ _ A B2 _ (V0.out.at (.head _)) (V0.out.at (.tail _ (.tail _ (.tail _ (.head _))))) H1.out).mono ?_
      rintro e w1 ⟨Aa, ca, ka, rfl, n1, b1⟩
      clear x0_f1 y0_f1 x0_g2 y0_g2
      have U1 := Lib.hid ((V0.out.go b1).num n1)
      clear n1 b1
      obtain ⟨x1_g1, y1_g1⟩ := U1.out.box (.tail _ (.head _))
      obtain ⟨x1_f2, y1_f2⟩ := U1.out.box (.tail _ (.tail _ (.tail _ (.head _))))
      have V1 := Lib.hid (U1.out.new (.slice Aa ka ca) 30)
      go_wp2_with fail
      refine (mul_num n2 c2 m d _ _ A2 B _ (V1.out.at (.tail _ (.tail _ (.tail _ (.head _))))) (V1.out.at (.tail _ (.tail _ (.head _)))) H2.out).mono ?_
      rintro e w2 ⟨Ab, cb, kb, rfl, n2, b2⟩
      clear x1_g1 y1_g1 x1_f2 y1_f2
      have U2 := Lib.hid ((V1.out.go b2).num n2)
      clear n2 b2
      obtain ⟨x2_f2, y2_f2⟩ := U2.out.box (.tail _ (.tail _ (.tail _ (.tail _ (.head _)))))
      obtain ⟨x2_g2, y2_g2⟩ := U2.out.box (.tail _ (.head _))
      have V2 := Lib.hid (U2.out.new (.slice Ab kb cb) 30)
      go_wp2_with fail
      refine (mul_num m d m2 d2 _ _ B B2 _ (V2.out.at (.tail _ (.tail _ (.tail _ (.head _))))) (V2.out.at (.tail _ (.tail _ (.tail _ (.tail _ (.tail _ (.head _))))))) H3.out).mono ?_
      rintro e w3 ⟨Ao, co, ko, rfl, n3, b3⟩
      clear x2_f2 y2_f2 x2_g2 y2_g2
      have U3 := Lib.hid ((V2.out.go b3).num n3)
      clear n3 b3
      have V3 := Lib.hid (U3.out.new (.slice Ao ko co) 30)
      obtain ⟨x3_f0, y3_f0⟩ := V3.out.box (.tail _ (.tail _ (.tail _ (.tail _ (.tail _ (.tail _ (.tail _ (.tail _ (.head _)))))))))
      obtain ⟨x3_g0, y3_g0⟩ := V3.out.box (.tail _ (.tail _ (.tail _ (.tail _ (.tail _ (.head _))))))
      obtain ⟨x3_a, y3_a⟩ := V3.out.box (.tail _ (.tail _ (.head _)))
      obtain ⟨x3_b, y3_b⟩ := V3.out.box (.tail _ (.head _))
      go_wp2_with fail
      refine (add_num ka ca kb cb _ _ Aa Ab _ (V3.out.at (.tail _ (.tail _ (.head _)))) (V3.out.at (.tail _ (.head _))) H4.out).mono ?_
      rintro e w4 ⟨Au, cu, ku, rfl, n4, b4⟩
      clear x3_f0 y3_f0 x3_g0 y3_g0 x3_a y3_a x3_b y3_b
      have U4 := Lib.hid ((V3.out.go b4).num n4)
      clear n4 b4
      have V4 := Lib.hid (U4.out.new (.slice Au ku cu) 30)
      obtain ⟨x4_f0, y4_f0⟩ := V4.out.box (.tail _ (.tail _ (.tail _ (.tail _ (.tail _ (.tail _ (.tail _ (.tail _ (.tail _ (.head _))))))))))
      obtain ⟨x4_u, y4_u⟩ := V4.out.box (.head _)
      obtain ⟨x4_o, y4_o⟩ := V4.out.box (.tail _ (.head _))
      have HB8 := Lib.hid (btwo HBE.out V4.out.2.2)
      go_wp2_with fail
      refine (lowest_num s ku cu ko co _ _ Au Ao _ (V4.out.at (.head _)) (V4.out.at (.tail _ (.head _))) HG.out).mono ?_
      rintro e w8 ⟨Ay, cy, ky, Az, cz, kz, rfl, n8, m8, b8⟩
      clear x4_f0 y4_f0 x4_u y4_u x4_o y4_o
      have HB9 := Lib.hid (btwo HB8.out b8)
      have N8 := Lib.hid n8
      have M8 := Lib.hid m8
      have K8 := Lib.hid ((HKE.out.go V4.out.2.2).go b8)
      clear n8 m8 b8
      obtain ⟨k0, k1, k2, k3, k4, k5, k6⟩ := K8.out.facts
      go_wp2_with fail
      refine bodyPost_ret (v := .tuple #[.agg #[.bool (s && !decide ((p * t + r * q) / gcdI (p * t + r * q) (q * t) = 0)), .slice Ay ky cy, .slice Az kz cz], .int .i64 0]) ?_ rfl ?_
      · simp [results, Tryz.results19, go_sem, k0, k1, k2]
      · rw [HR.out]; exact (fr_ok K8.out (by omega) N8.out M8.out HB9.out).any
end Go.Proofs.YtkfkefgkepoaaaaGreatDoor
