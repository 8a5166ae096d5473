/- The example of the chapter: how compare orders 2/3 and 3/2. -/
import Derived.Test.YtpinnopdimjfjaaGreatDoorFa
import Derived.Test.YtpinnopdimjfjaaGreatDoorNReg
import Derived.Deep.DeepCutAuto
import Derived.Deep.RegionHeld3
import Derived.WalkSmall
import Derived.Test.YtpinnopdimjfjaaGreatDoorFd
import Derived.Test.YtpinnopdimjfjaaGreatDoorFX
import Derived.Test.YtpinnopdimjfjaaGreatDoorFp
namespace Go.Proofs.YtpinnopdimjfjaaGreatDoor
open Go.RowKit
set_option linter.unusedVariables false
set_option maxRecDepth 100000

/-- Four boxes of a world that has grown out of wz. -/
def Box4 (wz : World) (v5 v6 v7 v8 : Value) (s5 s6 s7 s8 : Value) (w : World) : Prop :=
  ∃ b5 b6 b7 b8 : Nat, s5 = .pointer (some ⟨b5, 0, none⟩) ∧ s6 = .pointer (some ⟨b6, 0, none⟩) ∧ s7 = .pointer (some ⟨b7, 0, none⟩) ∧ s8 = .pointer (some ⟨b8, 0, none⟩) ∧
    (w.cell? ⟨b5, 0, none⟩ = some v5 ∧ b5 < w.heap.size) ∧ (w.cell? ⟨b6, 0, none⟩ = some v6 ∧ b6 < w.heap.size) ∧ (w.cell? ⟨b7, 0, none⟩ = some v7 ∧ b7 < w.heap.size) ∧ (w.cell? ⟨b8, 0, none⟩ = some v8 ∧ b8 < w.heap.size) ∧ Below wz.heap.size wz w
def Held4 (W : World) (u1 u2 u3 u4 : Value) (w : World) : Prop :=
  w.cell? ⟨W.heap.size, 1, none⟩ = some u1 ∧ w.cell? ⟨W.heap.size, 2, none⟩ = some u2 ∧ w.cell? ⟨W.heap.size + 1, 1, none⟩ = some u3 ∧ w.cell? ⟨W.heap.size + 1, 2, none⟩ = some u4
theorem held4_alloc {W w : World} {u1 u2 u3 u4 : Value} {o : Obj} (h : w.cell? ⟨W.heap.size, 1, none⟩ = some u1 ∧ w.cell? ⟨W.heap.size, 2, none⟩ = some u2 ∧ w.cell? ⟨W.heap.size + 1, 1, none⟩ = some u3 ∧ w.cell? ⟨W.heap.size + 1, 2, none⟩ = some u4) :
    (w.alloc o).cell? ⟨W.heap.size, 1, none⟩ = some u1 ∧ (w.alloc o).cell? ⟨W.heap.size, 2, none⟩ = some u2 ∧ (w.alloc o).cell? ⟨W.heap.size + 1, 1, none⟩ = some u3 ∧ (w.alloc o).cell? ⟨W.heap.size + 1, 2, none⟩ = some u4 :=
  ⟨(World.cell?_alloc_lt w o _ (World.block_lt_of_cell? _ _ h.1)).trans h.1, (World.cell?_alloc_lt w o _ (World.block_lt_of_cell? _ _ h.2.1)).trans h.2.1, (World.cell?_alloc_lt w o _ (World.block_lt_of_cell? _ _ h.2.2.1)).trans h.2.2.1, (World.cell?_alloc_lt w o _ (World.block_lt_of_cell? _ _ h.2.2.2)).trans h.2.2.2⟩
theorem held4_set {W w : World} {u1 u2 u3 u4 v : Value} {b : Nat} (hb : W.heap.size + 1 < b) (h : w.cell? ⟨W.heap.size, 1, none⟩ = some u1 ∧ w.cell? ⟨W.heap.size, 2, none⟩ = some u2 ∧ w.cell? ⟨W.heap.size + 1, 1, none⟩ = some u3 ∧ w.cell? ⟨W.heap.size + 1, 2, none⟩ = some u4) :
    (w.setCell ⟨b, 0, none⟩ v).cell? ⟨W.heap.size, 1, none⟩ = some u1 ∧ (w.setCell ⟨b, 0, none⟩ v).cell? ⟨W.heap.size, 2, none⟩ = some u2 ∧ (w.setCell ⟨b, 0, none⟩ v).cell? ⟨W.heap.size + 1, 1, none⟩ = some u3 ∧ (w.setCell ⟨b, 0, none⟩ v).cell? ⟨W.heap.size + 1, 2, none⟩ = some u4 :=
  ⟨(World.cell?_setCell_far w _ _ v (by show b ≠ W.heap.size; omega)).trans h.1, (World.cell?_setCell_far w _ _ v (by show b ≠ W.heap.size; omega)).trans h.2.1, (World.cell?_setCell_far w _ _ v (by show b ≠ W.heap.size + 1; omega)).trans h.2.2.1, (World.cell?_setCell_far w _ _ v (by show b ≠ W.heap.size + 1; omega)).trans h.2.2.2⟩
theorem quad {wz : World} {x1 x2 x3 x4 : Value} {T : TypeId} {N : Nat} (hN : wz.heap.size = N) (w : World) (hw : w = ((((wz.alloc (.cells #[x1] T)).alloc (.cells #[x2] T)).alloc (.cells #[x3] T)).alloc (.cells #[x4] T)).drew) :
    w.cell? ⟨N, 0, none⟩ = some x1 ∧ w.cell? ⟨N + 1, 0, none⟩ = some x2 ∧ w.cell? ⟨N + 1 + 1, 0, none⟩ = some x3 ∧ w.cell? ⟨N + 1 + 1 + 1, 0, none⟩ = some x4 ∧ w.heap.size = N + 1 + 1 + 1 + 1 ∧ Below wz.heap.size wz w := by
  subst hw
  subst hN
  have c1 : (wz.alloc (.cells #[x1] T)).cell? ⟨wz.heap.size, 0, none⟩ = some x1 := by rw [World.cell?_alloc_mark]; rfl
  have c2 : ((wz.alloc (.cells #[x1] T)).alloc (.cells #[x2] T)).cell? ⟨wz.heap.size + 1, 0, none⟩ = some x2 := by
    have e : wz.heap.size + 1 = (wz.alloc (.cells #[x1] T)).heap.size := by simp
    rw [e, World.cell?_alloc_mark]; rfl
  have c3 : (((wz.alloc (.cells #[x1] T)).alloc (.cells #[x2] T)).alloc (.cells #[x3] T)).cell? ⟨wz.heap.size + 1 + 1, 0, none⟩ = some x3 := by
    have e : wz.heap.size + 1 + 1 = ((wz.alloc (.cells #[x1] T)).alloc (.cells #[x2] T)).heap.size := by simp
    rw [e, World.cell?_alloc_mark]; rfl
  have c4 : ((((wz.alloc (.cells #[x1] T)).alloc (.cells #[x2] T)).alloc (.cells #[x3] T)).alloc (.cells #[x4] T)).cell? ⟨wz.heap.size + 1 + 1 + 1, 0, none⟩ = some x4 := by
    have e : wz.heap.size + 1 + 1 + 1 = (((wz.alloc (.cells #[x1] T)).alloc (.cells #[x2] T)).alloc (.cells #[x3] T)).heap.size := by simp
    rw [e, World.cell?_alloc_mark]; rfl
  have k : ∀ {w : World} {a : Addr} {v : Value} {o : Obj}, w.cell? a = some v → (w.alloc o).cell? a = some v := fun {w a v o} h => (World.cell?_alloc_lt w o a (World.block_lt_of_cell? _ _ h)).trans h
  refine ⟨k (k (k c1)), k (k c2), k c3, c4, by show (((wz.heap.push _).push _).push _ |>.push _).size = _; simp, ?_⟩
  exact (((((Below.refl _ _).alloc (Nat.le_refl _) _).alloc (by simp) _).alloc (by simp; omega) _).alloc (by simp; omega) _).drew
theorem lenN' {x : Int} (h : x < 100000000) : (digs x).length ≤ 200 := Nat.le_trans (digs_len_le (n := x) (k := 2) (by simp [pw]; omega)) (by omega)
set_option maxHeartbeats 16000000 in
theorem compare_ex (n c m d n2 c2 m2 d2 : Nat) (A B A2 B2 : Option Addr) (W : World) (hx : NumAt W (.slice A n c) 2) (hy : NumAt W (.slice B m d) 3) (hx2 : NumAt W (.slice A2 n2 c2) 3) (hy2 : NumAt W (.slice B2 m2 d2) 2) :
    Calls Tryz.prog 61 #[.agg #[.bool true, .slice A n c, .slice B m d], .agg #[.bool true, .slice A2 n2 c2, .slice B2 m2 d2]] W fun e w' => e = .returned (.int .i64 (-1)) ∧ Below W.heap.size W w' := by
  obtain ⟨wz, hwz⟩ : ∃ wz : World, wz = (W.alloc (.cells #[.bool true, .slice A n c, .slice B m d] 30)).alloc (.cells #[.bool true, .slice A2 n2 c2, .slice B2 m2 d2] 30) := ⟨_, rfl⟩
  have h0 := ((((((LiveA.start W).num hy2).num hx2).num hy).num hx).newF (.bool true) (.slice A n c) (.slice B m d) 30).newF (.bool true) (.slice A2 n2 c2) (.slice B2 m2 d2) 30
  rw [show (W.alloc (.cells #[.bool true, .slice A n c, .slice B m d] 30)).heap.size = W.heap.size + 1 by simp, ← hwz] at h0
  have hs : wz.heap.size = W.heap.size + 1 + 1 := by rw [hwz]; simp
  have g2 := (h0.box (.head _)).1
  have g1 := (h0.box (.tail _ (.head _))).1
  have f2 := (h0.box (.tail _ (.tail _ (.tail _ (.head _))))).1
  have f1 := (h0.box (.tail _ (.tail _ (.tail _ (.tail _ (.head _)))))).1
  have VZ := Lib.hid h0
  have HZ := Lib.hid hwz
  clear hwz h0 hx hy hx2 hy2
  go_enter Tryz.func61, Tryz.ntmps61
  go_upto_region 1 with fail
  rw [← HZ.out]
  go_cut [5, 6, 7, 8] (fun s5 s6 s7 s8 wx => Box4 wz (.slice A n c) (.slice B m d) (.slice A2 n2 c2) (.slice B2 m2 d2) s5 s6 s7 s8 wx)
  case first =>
    go_region_held3 (fun w' => w'.cell? ⟨W.heap.size, 1, none⟩ = some (.slice A n c) ∧ w'.cell? ⟨W.heap.size, 2, none⟩ = some (.slice B m d) ∧ w'.cell? ⟨W.heap.size + 1, 1, none⟩ = some (.slice A2 n2 c2) ∧ w'.cell? ⟨W.heap.size + 1, 2, none⟩ = some (.slice B2 m2 d2)) (first | exact ⟨f1, f2, g1, g2⟩ | exact held4_alloc (by assumption) | exact held4_alloc (held4_alloc (held4_alloc (held4_alloc ⟨f1, f2, g1, g2⟩)))) (fail)
    all_goals (go_wp2_with fail; go_meet)
    all_goals
      obtain ⟨q1, q2, q3, q4, q5, q6⟩ := quad hs _ rfl
      refine ⟨_, _, _, _, rfl, rfl, rfl, rfl, ⟨by assumption, ?_⟩, ⟨by assumption, ?_⟩, ⟨by assumption, ?_⟩, ⟨by assumption, ?_⟩, q6⟩
      all_goals (rw [q5]; omega)
  case rest =>
    obtain ⟨b5, b6, b7, b8, rfl, rfl, rfl, rfl, x5, x6, x7, x8, hb⟩ := hcut
    have V0 := Lib.hid (((((VZ.out.go hb).boxed (a := ⟨b5, 0, none⟩) x5.1 x5.2).boxed (a := ⟨b6, 0, none⟩) x6.1 x6.2).boxed (a := ⟨b7, 0, none⟩) x7.1 x7.2).boxed (a := ⟨b8, 0, none⟩) x8.1 x8.2)
    obtain ⟨x5, y5⟩ := x5
    obtain ⟨x6, y6⟩ := x6
    obtain ⟨x7, y7⟩ := x7
    obtain ⟨x8, y8⟩ := x8
    clear hb f1 f2 g1 g2 hs
    go_wp2
    refine wp_loop_rounds 1 ?_
    rw [rounds_succ]
    go_wp2_with fail
    refine (div_num n c m d 2 3 A B _ (V0.out.at (.head _)) (V0.out.at (.tail _ (.head _))) (by omega)).mono ?_
    rintro e w1 ⟨Ap, cp, kp, Au, cu, ku, rfl, n1, m1, e1⟩
    clear x5 y5 x6 y6 x7 y7 x8 y8
    have U1 := Lib.hid (((V0.out.go e1).num n1).num m1)
    clear n1 m1 e1
    obtain ⟨x8, y8⟩ := U1.out.box (.head _)
    obtain ⟨x7, y7⟩ := U1.out.box (.tail _ (.head _))
    have V1 := Lib.hid (U1.out.new2 (.slice Ap kp cp) (.slice Au ku cu) 24)
    go_wp2_with fail
    refine (div_num n2 c2 m2 d2 3 2 A2 B2 _ (V1.out.at (.tail _ (.tail _ (.tail _ (.tail _ (.head _)))))) (V1.out.at (.tail _ (.tail _ (.tail _ (.tail _ (.tail _ (.head _))))))) (by omega)).mono ?_
    rintro e w2 ⟨Aq, cq, kq, Av, cv, kv, rfl, n2', m2', e2⟩
    clear x7 y7 x8 y8
    have U2 := Lib.hid (((V1.out.go e2).num n2').num m2')
    clear n2' m2' e2
    obtain ⟨xp, yp⟩ := U2.out.box (.tail _ (.head _))
    have V2 := Lib.hid (U2.out.new2 (.slice Aq kq cq) (.slice Av kv cv) 24)
    go_wp2_with fail
    refine (cmp_num kp cp kq cq (2 / 3) (3 / 2) Ap Aq _ (V2.out.at (.tail _ (.tail _ (.tail _ (.head _))))) (V2.out.at (.tail _ (.head _)))).mono ?_
    rintro e w3 ⟨rfl, e3⟩
    rw [show sgn ((2 : Int) / 3 - 3 / 2) = -1 by decide]
    clear xp yp
    go_wp2_with fail
    go_ret
    exact ⟨rfl, (V2.out.go e3).2.2⟩
end Go.Proofs.YtpinnopdimjfjaaGreatDoor
/- The example of the chapter: Cmp; and what Parse says of 2/4. -/
namespace Go.Proofs.YtpinnopdimjfjaaGreatDoor
open Go.RowKit
set_option linter.unusedVariables false
set_option maxRecDepth 100000

theorem gcd32 : gcdI 3 2 = 1 := by decide
theorem gcd23' : gcdI 2 3 = 1 := by decide
set_option maxHeartbeats 4000000 in
theorem cmp_ex (n c m d n2 c2 m2 d2 : Nat) (A B A2 B2 : Option Addr) (W : World) (hx : NumAt W (.slice A n c) 3) (hy : NumAt W (.slice B m d) 2) (hx2 : NumAt W (.slice A2 n2 c2) 2) (hy2 : NumAt W (.slice B2 m2 d2) 3) :
    Calls Tryz.prog 29 #[.agg #[.bool true, .slice A n c, .slice B m d], .agg #[.bool true, .slice A2 n2 c2, .slice B2 m2 d2]] W fun e w' => e = .returned (.int .i64 (-1)) ∧ Below W.heap.size W w' := by
  have h0 := ((((((LiveA.start W).num hy2).num hx2).num hy).num hx).newF (.bool true) (.slice A n c) (.slice B m d) 30).newF (.bool true) (.slice A2 n2 c2) (.slice B2 m2 d2) 30
  rw [show (W.alloc (.cells #[.bool true, .slice A n c, .slice B m d] 30)).heap.size = W.heap.size + 1 by simp] at h0
  have V0 := Lib.hid h0
  clear hx hy hx2 hy2 h0
  go_enter Tryz.func29, Tryz.ntmps29
  go_wp2_with fail
  refine (fvalid_t true n c m d _ _ A B _ (V0.out.at (.head _)) (V0.out.at (.tail _ (.head _))) ⟨by omega, gcd32, fun _ => by omega⟩).mono ?_
  rintro e w1 ⟨rfl, b1⟩
  have V1 := Lib.hid (V0.out.go b1)
  clear b1
  obtain ⟨x1_g2, y1_g2⟩ := V1.out.box (.head _)
  obtain ⟨x1_g1, y1_g1⟩ := V1.out.box (.tail _ (.head _))
  obtain ⟨x1_g0, y1_g0⟩ := V1.out.box (.tail _ (.tail _ (.head _)))
  go_wp2_with fail
  refine (fvalid_t true n2 c2 m2 d2 _ _ A2 B2 _ (V1.out.at (.tail _ (.tail _ (.head _)))) (V1.out.at (.tail _ (.tail _ (.tail _ (.head _))))) ⟨by omega, gcd23', fun _ => by omega⟩).mono ?_
  rintro e w2 ⟨rfl, b2⟩
  clear x1_g2 y1_g2 x1_g1 y1_g1 x1_g0 y1_g0
  have V2 := Lib.hid (V1.out.go b2)
  clear b2
  obtain ⟨x2_g2, y2_g2⟩ := V2.out.box (.head _)
  obtain ⟨x2_g1, y2_g1⟩ := V2.out.box (.tail _ (.head _))
  obtain ⟨x2_g0, y2_g0⟩ := V2.out.box (.tail _ (.tail _ (.head _)))
  obtain ⟨x2_f2, y2_f2⟩ := V2.out.box (.tail _ (.tail _ (.tail _ (.head _))))
  obtain ⟨x2_f1, y2_f1⟩ := V2.out.box (.tail _ (.tail _ (.tail _ (.tail _ (.head _)))))
  obtain ⟨x2_f0, y2_f0⟩ := V2.out.box (.tail _ (.tail _ (.tail _ (.tail _ (.tail _ (.head _))))))
  go_wp2_with fail
  refine (compare_ex n2 c2 m2 d2 n c m d A2 B2 A B _ (V2.out.at (.tail _ (.tail _ (.head _)))) (V2.out.at (.tail _ (.tail _ (.tail _ (.head _))))) (V2.out.at (.head _)) (V2.out.at (.tail _ (.head _)))).mono ?_
  rintro e w3 ⟨rfl, b3⟩
  clear x2_g2 y2_g2 x2_g1 y2_g1 x2_g0 y2_g0 x2_f2 y2_f2 x2_f1 y2_f1 x2_f0 y2_f0
  have V3 := Lib.hid (V2.out.go b3)
  clear b3
  go_wp2_with fail
  go_ret
  exact ⟨rfl, V3.out.2.2⟩
end Go.Proofs.YtpinnopdimjfjaaGreatDoor
/- Contract of the statements' own check of the chapter's examples: it answers true. -/
namespace Go.Proofs.YtpinnopdimjfjaaGreatDoor
open Go.RowKit
set_option linter.unusedVariables false
set_option maxRecDepth 100000

theorem ofA (W : World) : Calls Tryz.prog 12 #[.int .i64 6, .int .i64 (-4)] W (FrOk true 3 2 W) := by
  have h := fof_good 6 (-4) 6 4 W (by omega) (by omega) (by omega) (by omega) (by omega) (by omega) (by omega)
  rw [show gcdI 6 4 = 2 by decide] at h
  exact h
theorem ofB (W : World) : Calls Tryz.prog 12 #[.int .i64 (-2), .int .i64 3] W (FrOk true 2 3 W) := by
  have h := fof_good (-2) 3 2 3 W (by omega) (by omega) (by omega) (by omega) (by omega) (by omega) (by omega)
  rw [show gcdI 2 3 = 1 by decide] at h
  exact h
theorem fmtA (n c m d : Nat) (A B : Option Addr) (W : World) (hx : NumAt W (.slice A n c) 3) (hy : NumAt W (.slice B m d) 2) (hT : Tab W) :
    Calls Tryz.prog 39 #[.agg #[.bool true, .slice A n c, .slice B m d]] W fun e w' => e = .returned (.tuple #[.string ⟨#[45, 51, 47, 50]⟩, .int .i64 0]) ∧ Below W.heap.size W w' := by
  refine (fformat_num true n c m d 3 2 A B W hx hy ⟨by omega, gcd32, fun _ => by omega⟩ hT).mono ?_
  rintro e w' ⟨he, hb⟩
  rw [show ftext true 3 2 = [45, 51, 47, 50] by decide +kernel] at he
  exact ⟨he, hb⟩
theorem parC (W : World) (hC : Cutl W) : Calls Tryz.prog 40 #[.string ⟨#[50, 47, 52]⟩] W (FrErr 2 W) := by
  have h1 : numOf [50, 47, 52] = [50] := by decide +kernel
  have h2 : denOf [50, 47, 52] = [52] := by decide +kernel
  refine fparse_bad4 [50, 47, 52] W (by decide) hC ?_ ?_ ?_ ?_
  · rw [h1]; decide +kernel
  · rw [h2]; decide +kernel
  · rw [h2]; decide +kernel
  · rw [h1, h2]; decide +kernel
set_option maxHeartbeats 8000000 in
theorem awake_any (W : World) (hT : Tab W) (hC : Cutl W) : Calls Tryz.prog 10 #[] W fun e w' => e = .returned (.bool true) ∧ Below W.heap.size W w' := by
  have HT := Lib.hid hT
  have HC := Lib.hid hC
  have V0 := Lib.hid (LiveA.start W)
  clear hT hC
  go_enter Tryz.func10, Tryz.ntmps10
  go_wp2_with fail
  refine (ofA _).mono ?_
  rintro e w1 ⟨Aa, ca, ka, Ap, cp, kp, rfl, n1, m1, b1⟩
  have U1 := Lib.hid (((V0.out.go b1).num m1).num n1)
  clear n1 m1 b1
  have V1 := Lib.hid (U1.out.newF (.bool true) (.slice Aa ka ca) (.slice Ap kp cp) 30)
  go_wp2_with fail
  refine (fmtA ka ca kp cp Aa Ap _ (V1.out.at (.head _)) (V1.out.at (.tail _ (.head _))) (HT.out.below V1.out.2.2)).mono ?_
  rintro e w2 ⟨rfl, b2⟩
  have V2 := Lib.hid (V1.out.go b2)
  clear b2
  go_wp2_with fail
  refine (ofB _).mono ?_
  rintro e w3 ⟨Ab, cb, kb, Aq, cq, kq, rfl, n3, m3, b3⟩
  have U3 := Lib.hid (((V2.out.go b3).num m3).num n3)
  clear n3 m3 b3
  have V3 := Lib.hid (U3.out.newF (.bool true) (.slice Ab kb cb) (.slice Aq kq cq) 30)
  go_wp2_with fail
  refine (decimal_ex kb cb kq cq Ab Aq _ (V3.out.at (.head _)) (V3.out.at (.tail _ (.head _))) (HT.out.below V3.out.2.2)).mono ?_
  rintro e w4 ⟨rfl, b4⟩
  have V4 := Lib.hid (V3.out.go b4)
  clear b4
  go_wp2_with fail
  refine (parC _ (HC.out.below V4.out.2.2)).mono ?_
  rintro e w5 ⟨rfl, b5⟩
  have V5 := Lib.hid (V4.out.go b5)
  clear b5
  obtain ⟨x5_a0, y5_a0⟩ := V5.out.box (.tail _ (.tail _ (.tail _ (.tail _ (.tail _ (.head _))))))
  obtain ⟨x5_a1, y5_a1⟩ := V5.out.box (.tail _ (.tail _ (.tail _ (.tail _ (.head _)))))
  obtain ⟨x5_a2, y5_a2⟩ := V5.out.box (.tail _ (.tail _ (.tail _ (.head _))))
  have VB := Lib.hid (V5.out.newF (.bool false) (.slice none 0 0) (.slice none 0 0) 30)
  go_wp2_with fail
  refine (fvalid_t true ka ca kp cp _ _ Aa Ap _ (VB.out.at (.tail _ (.tail _ (.head _)))) (VB.out.at (.tail _ (.tail _ (.tail _ (.head _))))) ⟨by omega, gcd32, fun _ => by omega⟩).mono ?_
  rintro e w6 ⟨rfl, b6⟩
  clear x5_a0 y5_a0 x5_a1 y5_a1 x5_a2 y5_a2
  have V6 := Lib.hid (VB.out.go b6)
  clear b6
  obtain ⟨x6_a0, y6_a0⟩ := V6.out.box (.tail _ (.tail _ (.tail _ (.tail _ (.tail _ (.tail _ (.tail _ (.tail _ (.head _)))))))))
  obtain ⟨x6_a1, y6_a1⟩ := V6.out.box (.tail _ (.tail _ (.tail _ (.tail _ (.tail _ (.tail _ (.tail _ (.head _))))))))
  obtain ⟨x6_a2, y6_a2⟩ := V6.out.box (.tail _ (.tail _ (.tail _ (.tail _ (.tail _ (.tail _ (.head _)))))))
  obtain ⟨x6_b0, y6_b0⟩ := V6.out.box (.tail _ (.tail _ (.tail _ (.tail _ (.tail _ (.head _))))))
  obtain ⟨x6_b1, y6_b1⟩ := V6.out.box (.tail _ (.tail _ (.tail _ (.tail _ (.head _)))))
  obtain ⟨x6_b2, y6_b2⟩ := V6.out.box (.tail _ (.tail _ (.tail _ (.head _))))
  go_wp2_with fail
  refine (cmp_ex ka ca kp cp kb cb kq cq Aa Ap Ab Aq _ (V6.out.at (.tail _ (.tail _ (.head _)))) (V6.out.at (.tail _ (.tail _ (.tail _ (.head _))))) (V6.out.at (.head _)) (V6.out.at (.tail _ (.head _)))).mono ?_
  rintro e w7 ⟨rfl, b7⟩
  clear x6_a0 y6_a0 x6_a1 y6_a1 x6_a2 y6_a2 x6_b0 y6_b0 x6_b1 y6_b1 x6_b2 y6_b2
  have V7 := Lib.hid (V6.out.go b7)
  clear b7
  go_wp2_with fail
  go_ret
  exact ⟨rfl, V7.out.2.2⟩
end Go.Proofs.YtpinnopdimjfjaaGreatDoor
