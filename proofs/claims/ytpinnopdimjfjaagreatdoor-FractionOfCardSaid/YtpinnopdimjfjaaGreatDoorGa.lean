/- Contracts of the reference's lowest of fractions. -/
import Derived.Test.YtpinnopdimjfjaaGreatDoorFq
import Derived.Test.YtpinnopdimjfjaaGreatDoorFp
namespace Go.Proofs.YtpinnopdimjfjaaGreatDoor
open Go.RowKit
set_option linter.unusedVariables false
set_option maxRecDepth 100000

set_option maxHeartbeats 400000 in
theorem rzero_len (n c : Nat) (A : Option Addr) (w : World) (hn : n ≤ maxLen) :
    Calls Tryz.prog 48 #[.agg #[.slice A n c]] w fun e w' => e = .returned (.bool (decide (n = 0))) ∧ Below w.heap.size w w' := by
  have E := Lib.hid (show ((n : Int) == 0) = decide (n = 0) by rw [Bool.eq_iff_iff]; simp)
  unfold maxLen at hn
  go_enter Tryz.func48, Tryz.ntmps48
  go_wp2
  go_ret
  exact ⟨ret_bool E.out.symm, (Below.refl _ _).alloc (Nat.le_refl _) _⟩
set_option maxHeartbeats 4000000 in
theorem rlowest_num (s : Bool) (n c m d : Nat) (x y : Int) (A B : Option Addr) (W : World) (hx : NumAt W (.slice A n c) x) (hy : NumAt W (.slice B m d) y) (hg : 0 < gcdI x y) :
    Calls Tryz.prog 43 #[.bool s, .agg #[.slice A n c], .agg #[.slice B m d]] W (FrPost (s && !decide (x / gcdI x y = 0)) (x / gcdI x y) (y / gcdI x y) W) := by
  obtain ⟨E, hE⟩ : ∃ E : World, E = ((W.alloc (.cells #[.slice A n c] 24)).alloc (.cells #[.slice B m d] 24)).alloc (.cells #[.bool false, .slice none 0 0, .slice none 0 0] 30) := ⟨_, rfl⟩
  have BE : Below W.heap.size W E := by rw [hE]; exact btwo two_box one_new
  have KE : KeptF (W.heap.size + 1 + 1) E := by
    have := keptF_new ((W.alloc (.cells #[.slice A n c] 24)).alloc (.cells #[.slice B m d] 24))
    rw [← hE] at this
    simpa using this
  have VW := (((LiveA.start W).num hy).num hx).new2 (.slice A n c) (.slice B m d) 24
  have V0 := Lib.hid (show LiveA E [(⟨W.heap.size + 1, 0, none⟩, .slice B m d), (⟨W.heap.size, 0, none⟩, .slice A n c)] [(.slice A n c, x), (.slice B m d, y)] E by
    have h := VW.go (one_new (o := .cells #[.bool false, .slice none 0 0, .slice none 0 0] 30))
    rw [← hE] at h
    exact ⟨h.1, h.2.1, Below.refl _ _⟩)
  have HKE := Lib.hid KE
  have HBE := Lib.hid BE
  clear VW KE BE
  have PX := hx.1
  have PY := hy.1
  clear hx hy
  subst hE
  go_enter Tryz.func43, Tryz.ntmps43
  go_wp2_with fail
  refine (rgcd_num n c m d _ _ A B _ (V0.out.at (.head _)) (V0.out.at (.tail _ (.head _)))).mono ?_
  rintro e w1 ⟨Ag, cg, kg, rfl, n1, b1⟩
  have U1 := Lib.hid ((V0.out.go b1).num n1)
  clear n1 b1
  obtain ⟨x1_x, y1_x⟩ := U1.out.box (.tail _ (.head _))
  obtain ⟨x1_y, y1_y⟩ := U1.out.box (.head _)
  have V1 := Lib.hid (U1.out.new (.slice Ag kg cg) 24)
  go_wp2_with fail
  refine (rdiv_num n c kg cg _ _ A Ag _ (V1.out.at (.tail _ (.head _))) (V1.out.at (.head _)) hg).mono ?_
  rintro e w2 ⟨Ap, cp, kp, Au, cu, ku, rfl, n2, m2, b2⟩
  clear x1_x y1_x x1_y y1_y
  have U2 := Lib.hid (((V1.out.go b2).num n2).num m2)
  clear n2 m2 b2
  obtain ⟨x2_x, y2_x⟩ := U2.out.box (.tail _ (.tail _ (.head _)))
  obtain ⟨x2_y, y2_y⟩ := U2.out.box (.tail _ (.head _))
  obtain ⟨x2_g, y2_g⟩ := U2.out.box (.head _)
  have V2 := Lib.hid (U2.out.new2 (.slice Ap kp cp) (.slice Au ku cu) 24)
  go_wp2_with fail
  refine (rdiv_num m d kg cg _ _ B Ag _ (V2.out.at (.tail _ (.tail _ (.tail _ (.tail _ (.head _)))))) (V2.out.at (.tail _ (.tail _ (.head _)))) hg).mono ?_
  rintro e w3 ⟨Aq, cq, kq, Av, cv, kv, rfl, n3, m3, b3⟩
  clear x2_x y2_x x2_y y2_y x2_g y2_g
  have U3 := Lib.hid (((V2.out.go b3).num n3).num m3)
  clear n3 m3 b3
  obtain ⟨x3_p, y3_p⟩ := U3.out.box (.tail _ (.head _))
  obtain ⟨x3_x, y3_x⟩ := U3.out.box (.tail _ (.tail _ (.tail _ (.tail _ (.head _)))))
  have V3 := Lib.hid (U3.out.new2 (.slice Aq kq cq) (.slice Av kv cv) 24)
  obtain ⟨wz, hwz⟩ : ∃ wz : World, wz = (w3.alloc (.cells #[.slice Aq kq cq] 24)).alloc (.cells #[.slice Av kv cv] 24) := ⟨_, rfl⟩
  have VZ := V3.out
  rw [← hwz] at VZ
  have HVZ := Lib.hid VZ
  have HKR := Lib.hid (HKE.out.go VZ.2.2)
  clear x3_p y3_p x3_x y3_x
  go_upto_region 4 with fail
  rw [← hwz]
  clear hwz VZ
  obtain ⟨x3_p, y3_p⟩ := HVZ.out.box (.tail _ (.tail _ (.tail _ (.head _))))
  obtain ⟨x3_q, y3_q⟩ := HVZ.out.box (.tail _ (.head _))
  obtain ⟨k0, k1, k2, k3, k4, k5, k6⟩ := HKR.out.facts
  have NP := Lib.hid (HVZ.out.at (.tail _ (.tail _ (.tail _ (.head _)))))
  have NQ := Lib.hid (HVZ.out.at (.tail _ (.head _)))
  have HBW := Lib.hid (btwo HBE.out HVZ.out.2.2)
  have KP := Lib.hid (show kp ≤ maxLen by have := NP.out.slice; exact Nat.le_trans this.2.2.2.1 this.2.2.2.2.1)
  have XP := Lib.hid (HVZ.out.box (.tail _ (.tail _ (.tail _ (.head _)))))
  have XQ := Lib.hid (HVZ.out.box (.tail _ (.head _)))
  cases s with
  | false =>
    go_still_tail 9, (by kernel_rfl)
    go_wp2_with fail
    exact bodyPost_ret (v := .agg #[.bool false, .slice Ap kp cp, .slice Aq kq cq]) (by simp [results, Tryz.results43, go_sem, k0, k1, k2]) rfl (by rw [drew_eq]; exact fr_store HKR.out (by omega) NP.out NQ.out HBW.out 1)
  | true =>
    have HS := Lib.hid (show (true && !decide (x / gcdI x y = 0)) = !decide (kp = 0) by have := NP.out.slice; rw [Bool.true_and, decide_eq_decide.2 (show x / gcdI x y = 0 ↔ kp = 0 from ⟨fun e => by rw [this.2.1, e, digs_zero]; rfl, fun e => (len_zero this.1).1 (by omega)⟩)])
    go_region_with ((go_at_call 48; (with_reducible refine (rzero_len kp cp Ap _ KP.out).mono ?_); rintro e w5 ⟨rfl, hb5⟩; have D5 : Below wz.heap.size wz w5 := btwo (by first | exact Below.refl _ _ | exact (Below.refl _ _).drew | exact bdr (Below.refl _ _) _ | exact bdr (Below.refl _ _).drew _) hb5; obtain ⟨x5p, y5p⟩ := cell_old XP.out.1 XP.out.2 D5; obtain ⟨x5q, y5q⟩ := cell_old XQ.out.1 XQ.out.2 D5; obtain ⟨k0, k1, k2, k3, k4, k5, k6⟩ := (HKR.out.go D5).facts; have HD5 := Lib.hid D5; clear D5 hb5))
    all_goals (go_wp2_with fail)
    all_goals exact bodyPost_ret (v := .agg #[.bool (!decide (kp = 0)), .slice Ap kp cp, .slice Aq kq cq]) (by simp [results, Tryz.results43, go_sem, k0, k1, k2]) rfl (by rw [HS.out]; exact fr_store' (HKR.out.go HD5.out) (by omega) (NP.out.below HD5.out) (NQ.out.below HD5.out) (btwo HBW.out HD5.out))
theorem num_nil (w : World) : NumAt w (.slice none 0 0) 0 := ⟨Int.le_refl _, none, 0, by rw [digs_zero]; rfl, by rw [digs_zero]; exact fun h => by simp at h, by rw [digs_zero]; exact Nat.zero_le _, Nat.zero_le _, by rw [digs_zero]; exact Nat.zero_le _⟩
/-- A call that returns a fraction and a number of an error. -/
def FrE (r : Bool × Int × Int × Int) (W : World) (e : Ending) (w' : World) : Prop :=
  ∃ A c k B d l, e = .returned (.tuple #[.agg #[.bool r.1, .slice A k c, .slice B l d], .int .i64 r.2.2.2]) ∧ NumAt w' (.slice A k c) r.2.1 ∧ NumAt w' (.slice B l d) r.2.2.1 ∧ Below W.heap.size W w'
theorem FrOk.any {s : Bool} {p q : Int} {W w' : World} {e : Ending} (h : FrOk s p q W e w') : FrE (s, p, q, 0) W e w' := h
theorem FrErr.any {x : Int} {W w' : World} {e : Ending} (h : FrErr x W e w') : FrE (false, 0, 0, x) W e w' := ⟨none, 0, 0, none, 0, 0, h.1, num_nil _, num_nil _, h.2⟩
/-- The answer of Of. -/
def ofR (a b : Int) : Bool × Int × Int × Int :=
  if b = 0 then (false, 0, 0, 6) else if a < -1000000000000000 ∨ a > 1000000000000000 ∨ b < -1000000000000000 ∨ b > 1000000000000000 then (false, 0, 0, 3) else
  ((decide (a < 0) != decide (b < 0)) && !decide (max a (-a) / gcdI (max a (-a)) (max b (-b)) = 0), max a (-a) / gcdI (max a (-a)) (max b (-b)), max b (-b) / gcdI (max a (-a)) (max b (-b)), 0)
/-- The answer of New. -/
def newR (L M : List Int) : Bool × Int × Int × Int :=
  if ¬ (vldB L = true ∧ vldB M = true) then (false, 0, 0, 1) else if val M = 0 then (false, 0, 0, 6) else
  (false, val L / gcdI (val L) (val M), val M / gcdI (val L) (val M), 0)
set_option maxHeartbeats 2000000 in
theorem fof_zero (a : Int) (W : World) : Calls Tryz.prog 12 #[.int .i64 a, .int .i64 0] W (FrErr 6 W) := by
  have HB9 := Lib.hid (show Below W.heap.size W (W.alloc (.cells #[.bool false, .slice none 0 0, .slice none 0 0] 30)) from one_new)
  have HK9 := Lib.hid (keptF_new W)
  go_enter Tryz.func12, Tryz.ntmps12
  obtain ⟨j0, j1, j2, j3, j4, j5, j6⟩ := HK9.out.facts
  go_wp2_with fail
  refine bodyPost_ret (v := .tuple #[.agg #[.bool false, .slice none 0 0, .slice none 0 0], .int .i64 6]) ?_ rfl ?_
  · simp [results, Tryz.results12, go_sem, j0, j1, j2]
  · exact ⟨rfl, HB9.out⟩
set_option maxHeartbeats 2000000 in
theorem fof_big (a b : Int) (W : World) (hb : ¬ b = 0) (h : a < -1000000000000000 ∨ a > 1000000000000000 ∨ b < -1000000000000000 ∨ b > 1000000000000000) : Calls Tryz.prog 12 #[.int .i64 a, .int .i64 b] W (FrErr 3 W) := by
  have HB9 := Lib.hid (show Below W.heap.size W (W.alloc (.cells #[.bool false, .slice none 0 0, .slice none 0 0] 30)) from one_new)
  have HK9 := Lib.hid (keptF_new W)
  have e5 : (b == 0) = false := by simpa using hb
  clear hb
  by_cases h1 : a < -1000000000000000
  · clear h
    go_enter Tryz.func12, Tryz.ntmps12
    obtain ⟨j0, j1, j2, j3, j4, j5, j6⟩ := HK9.out.facts
    go_wp2_with fail
    refine bodyPost_ret (v := .tuple #[.agg #[.bool false, .slice none 0 0, .slice none 0 0], .int .i64 3]) ?_ rfl ?_
    · simp [results, Tryz.results12, go_sem, j0, j1, j2]
    · exact ⟨rfl, HB9.out⟩
  · skip
    by_cases h2 : a > 1000000000000000
    · clear h
      go_enter Tryz.func12, Tryz.ntmps12
      obtain ⟨j0, j1, j2, j3, j4, j5, j6⟩ := HK9.out.facts
      go_wp2_with fail
      refine bodyPost_ret (v := .tuple #[.agg #[.bool false, .slice none 0 0, .slice none 0 0], .int .i64 3]) ?_ rfl ?_
      · simp [results, Tryz.results12, go_sem, j0, j1, j2]
      · exact ⟨rfl, HB9.out⟩
    · skip
      by_cases h3 : b < -1000000000000000
      · clear h
        go_enter Tryz.func12, Tryz.ntmps12
        obtain ⟨j0, j1, j2, j3, j4, j5, j6⟩ := HK9.out.facts
        go_wp2_with fail
        refine bodyPost_ret (v := .tuple #[.agg #[.bool false, .slice none 0 0, .slice none 0 0], .int .i64 3]) ?_ rfl ?_
        · simp [results, Tryz.results12, go_sem, j0, j1, j2]
        · exact ⟨rfl, HB9.out⟩
      · skip
        have h4 : b > 1000000000000000 := by omega
        clear h
        go_enter Tryz.func12, Tryz.ntmps12
        obtain ⟨j0, j1, j2, j3, j4, j5, j6⟩ := HK9.out.facts
        go_wp2_with fail
        refine bodyPost_ret (v := .tuple #[.agg #[.bool false, .slice none 0 0, .slice none 0 0], .int .i64 3]) ?_ rfl ?_
        · simp [results, Tryz.results12, go_sem, j0, j1, j2]
        · exact ⟨rfl, HB9.out⟩
set_option maxHeartbeats 2000000 in
theorem rof_zero (a : Int) (W : World) : Calls Tryz.prog 13 #[.int .i64 a, .int .i64 0] W (FrErr 6 W) := by
  have HB9 := Lib.hid (show Below W.heap.size W (W.alloc (.cells #[.bool false, .slice none 0 0, .slice none 0 0] 30)) from one_new)
  have HK9 := Lib.hid (keptF_new W)
  go_enter Tryz.func13, Tryz.ntmps13
  obtain ⟨j0, j1, j2, j3, j4, j5, j6⟩ := HK9.out.facts
  go_wp2_with fail
  refine bodyPost_ret (v := .tuple #[.agg #[.bool false, .slice none 0 0, .slice none 0 0], .int .i64 6]) ?_ rfl ?_
  · simp [results, Tryz.results13, go_sem, j0, j1, j2]
  · exact ⟨rfl, HB9.out⟩
set_option maxHeartbeats 2000000 in
theorem rof_big (a b : Int) (W : World) (hb : ¬ b = 0) (h : a < -1000000000000000 ∨ a > 1000000000000000 ∨ b < -1000000000000000 ∨ b > 1000000000000000) : Calls Tryz.prog 13 #[.int .i64 a, .int .i64 b] W (FrErr 3 W) := by
  have HB9 := Lib.hid (show Below W.heap.size W (W.alloc (.cells #[.bool false, .slice none 0 0, .slice none 0 0] 30)) from one_new)
  have HK9 := Lib.hid (keptF_new W)
  have e5 : (b == 0) = false := by simpa using hb
  clear hb
  by_cases h1 : a < -1000000000000000
  · clear h
    go_enter Tryz.func13, Tryz.ntmps13
    obtain ⟨j0, j1, j2, j3, j4, j5, j6⟩ := HK9.out.facts
    go_wp2_with fail
    refine bodyPost_ret (v := .tuple #[.agg #[.bool false, .slice none 0 0, .slice none 0 0], .int .i64 3]) ?_ rfl ?_
    · simp [results, Tryz.results13, go_sem, j0, j1, j2]
    · exact ⟨rfl, HB9.out⟩
  · skip
    by_cases h2 : a > 1000000000000000
    · clear h
      go_enter Tryz.func13, Tryz.ntmps13
      obtain ⟨j0, j1, j2, j3, j4, j5, j6⟩ := HK9.out.facts
      go_wp2_with fail
      refine bodyPost_ret (v := .tuple #[.agg #[.bool false, .slice none 0 0, .slice none 0 0], .int .i64 3]) ?_ rfl ?_
      · simp [results, Tryz.results13, go_sem, j0, j1, j2]
      · exact ⟨rfl, HB9.out⟩
    · skip
      by_cases h3 : b < -1000000000000000
      · clear h
        go_enter Tryz.func13, Tryz.ntmps13
        obtain ⟨j0, j1, j2, j3, j4, j5, j6⟩ := HK9.out.facts
        go_wp2_with fail
        refine bodyPost_ret (v := .tuple #[.agg #[.bool false, .slice none 0 0, .slice none 0 0], .int .i64 3]) ?_ rfl ?_
        · simp [results, Tryz.results13, go_sem, j0, j1, j2]
        · exact ⟨rfl, HB9.out⟩
      · skip
        have h4 : b > 1000000000000000 := by omega
        clear h
        go_enter Tryz.func13, Tryz.ntmps13
        obtain ⟨j0, j1, j2, j3, j4, j5, j6⟩ := HK9.out.facts
        go_wp2_with fail
        refine bodyPost_ret (v := .tuple #[.agg #[.bool false, .slice none 0 0, .slice none 0 0], .int .i64 3]) ?_ rfl ?_
        · simp [results, Tryz.results13, go_sem, j0, j1, j2]
        · exact ⟨rfl, HB9.out⟩
set_option maxHeartbeats 4000000 in
theorem rof_good (a b M N : Int) (W : World) (ha0 : -1000000000000000 ≤ a) (ha1 : a ≤ 1000000000000000) (hb0 : -1000000000000000 ≤ b) (hb1 : b ≤ 1000000000000000) (hb : ¬ b = 0) (hM : M = max a (-a)) (hN : N = max b (-b)) :
    Calls Tryz.prog 13 #[.int .i64 a, .int .i64 b] W (FrOk ((decide (a < 0) != decide (b < 0)) && !decide (M / gcdI M N = 0)) (M / gcdI M N) (N / gcdI M N) W) := by
  have hM0 : 0 ≤ M := by omega
  have hM1 : M ≤ 1000000000000000 := by omega
  have hN0 : 0 < N := by omega
  have hN1 : N ≤ 1000000000000000 := by omega
  have hg : 0 < gcdI M N := by rw [gcdI_comm]; exact gcdI_pos hN0
  have HBE := Lib.hid (show Below W.heap.size W (W.alloc (.cells #[.bool false, .slice none 0 0, .slice none 0 0] 30)) from one_new)
  have HKE := Lib.hid (keptF_new W)
  have V0 := Lib.hid (LiveA.start (W.alloc (.cells #[.bool false, .slice none 0 0, .slice none 0 0] 30)))
  have e5 : (b == 0) = false := by simpa using hb
  clear hb
  by_cases hna : a < 0
  · by_cases hnb : b < 0
    · have da : decide (a < 0) = true := decide_eq_true hna
      have db : decide (b < 0) = true := decide_eq_true hnb
      have eM : -a = M := by omega
      have eN : -b = N := by omega
      clear hM hN hna hnb
      have EM := Lib.hid eM
      clear eM
      have EN := Lib.hid eN
      clear eN
      go_enter Tryz.func13, Tryz.ntmps13
      go_wp2_with fail
      rw [EM.out]
      refine (rSmall_num M _ hM0 hM1).mono ?_
      rintro e w1 ⟨Am, cm, km, rfl, n1, b1⟩
      have V1 := Lib.hid ((V0.out.go b1).num n1)
      clear n1 b1
      go_wp2_with fail
      rw [EN.out]
      refine (rSmall_num N _ (by omega) hN1).mono ?_
      rintro e w2 ⟨An, cn, kn, rfl, n2, b2⟩
      have V2 := Lib.hid ((V1.out.go b2).num n2)
      clear n2 b2
      have HB2 := Lib.hid (btwo HBE.out V2.out.2.2)
      go_wp2_with fail
      refine (rlowest_num _ km cm kn cn M N Am An _ (V2.out.at (.tail _ (.head _))) (V2.out.at (.head _)) hg).mono ?_
      rintro e w3 ⟨Ap, cp, kp, Aq, cq, kq, rfl, n3, m3, b3⟩
      have HB3 := Lib.hid (btwo HB2.out b3)
      have N3 := Lib.hid n3
      have M3 := Lib.hid m3
      have K3 := Lib.hid ((HKE.out.go V2.out.2.2).go b3)
      clear n3 m3 b3
      obtain ⟨k0, k1, k2, k3, k4, k5, k6⟩ := K3.out.facts
      go_wp2_with fail
      refine bodyPost_ret (v := .tuple #[.agg #[.bool false, .slice Ap kp cp, .slice Aq kq cq], .int .i64 0]) ?_ rfl ?_
      · simp [results, Tryz.results13, go_sem, k0, k1, k2]
      · have e : (decide (a < 0) != decide (b < 0) && !decide (M / gcdI M N = 0)) = false := by rw [da, db]; rfl
        rw [e]
        have h := fr_ok (s := false) K3.out (Nat.le_refl _) N3.out M3.out HB3.out
        exact h
    · have da : decide (a < 0) = true := decide_eq_true hna
      have db : decide (b < 0) = false := decide_eq_false hnb
      have eM : -a = M := by omega
      have eN : b = N := by omega
      clear hM hN hna hnb
      have EM := Lib.hid eM
      clear eM
      subst eN
      go_enter Tryz.func13, Tryz.ntmps13
      go_wp2_with fail
      rw [EM.out]
      refine (rSmall_num M _ hM0 hM1).mono ?_
      rintro e w1 ⟨Am, cm, km, rfl, n1, b1⟩
      have V1 := Lib.hid ((V0.out.go b1).num n1)
      clear n1 b1
      go_wp2_with fail
      refine (rSmall_num b _ (by omega) hN1).mono ?_
      rintro e w2 ⟨An, cn, kn, rfl, n2, b2⟩
      have V2 := Lib.hid ((V1.out.go b2).num n2)
      clear n2 b2
      have HB2 := Lib.hid (btwo HBE.out V2.out.2.2)
      go_wp2_with fail
      refine (rlowest_num _ km cm kn cn M b Am An _ (V2.out.at (.tail _ (.head _))) (V2.out.at (.head _)) hg).mono ?_
      rintro e w3 ⟨Ap, cp, kp, Aq, cq, kq, rfl, n3, m3, b3⟩
      have HB3 := Lib.hid (btwo HB2.out b3)
      have N3 := Lib.hid n3
      have M3 := Lib.hid m3
      have K3 := Lib.hid ((HKE.out.go V2.out.2.2).go b3)
      clear n3 m3 b3
      obtain ⟨k0, k1, k2, k3, k4, k5, k6⟩ := K3.out.facts
      go_wp2_with fail
      refine bodyPost_ret (v := .tuple #[.agg #[.bool (!decide (M / gcdI M b = 0)), .slice Ap kp cp, .slice Aq kq cq], .int .i64 0]) ?_ rfl ?_
      · simp [results, Tryz.results13, go_sem, k0, k1, k2]
      · have e : (decide (a < 0) != decide (b < 0) && !decide (M / gcdI M b = 0)) = (!decide (M / gcdI M b = 0)) := by rw [da, db]; rfl
        rw [e]
        have h := fr_ok (s := (!decide (M / gcdI M b = 0))) K3.out (Nat.le_refl _) N3.out M3.out HB3.out
        exact h
  · by_cases hnb : b < 0
    · have da : decide (a < 0) = false := decide_eq_false hna
      have db : decide (b < 0) = true := decide_eq_true hnb
      have eM : a = M := by omega
      have eN : -b = N := by omega
      clear hM hN hna hnb
      subst eM
      have EN := Lib.hid eN
      clear eN
      go_enter Tryz.func13, Tryz.ntmps13
      go_wp2_with fail
      refine (rSmall_num a _ hM0 hM1).mono ?_
      rintro e w1 ⟨Am, cm, km, rfl, n1, b1⟩
      have V1 := Lib.hid ((V0.out.go b1).num n1)
      clear n1 b1
      go_wp2_with fail
      rw [EN.out]
      refine (rSmall_num N _ (by omega) hN1).mono ?_
      rintro e w2 ⟨An, cn, kn, rfl, n2, b2⟩
      have V2 := Lib.hid ((V1.out.go b2).num n2)
      clear n2 b2
      have HB2 := Lib.hid (btwo HBE.out V2.out.2.2)
      go_wp2_with fail
      refine (rlowest_num _ km cm kn cn a N Am An _ (V2.out.at (.tail _ (.head _))) (V2.out.at (.head _)) hg).mono ?_
      rintro e w3 ⟨Ap, cp, kp, Aq, cq, kq, rfl, n3, m3, b3⟩
      have HB3 := Lib.hid (btwo HB2.out b3)
      have N3 := Lib.hid n3
      have M3 := Lib.hid m3
      have K3 := Lib.hid ((HKE.out.go V2.out.2.2).go b3)
      clear n3 m3 b3
      obtain ⟨k0, k1, k2, k3, k4, k5, k6⟩ := K3.out.facts
      go_wp2_with fail
      refine bodyPost_ret (v := .tuple #[.agg #[.bool (!decide (a / gcdI a N = 0)), .slice Ap kp cp, .slice Aq kq cq], .int .i64 0]) ?_ rfl ?_
      · simp [results, Tryz.results13, go_sem, k0, k1, k2]
      · have e : (decide (a < 0) != decide (b < 0) && !decide (a / gcdI a N = 0)) = (!decide (a / gcdI a N = 0)) := by rw [da, db]; rfl
        rw [e]
        have h := fr_ok (s := (!decide (a / gcdI a N = 0))) K3.out (Nat.le_refl _) N3.out M3.out HB3.out
        exact h
    · have da : decide (a < 0) = false := decide_eq_false hna
      have db : decide (b < 0) = false := decide_eq_false hnb
      have eM : a = M := by omega
      have eN : b = N := by omega
      clear hM hN hna hnb
      subst eM
      subst eN
      go_enter Tryz.func13, Tryz.ntmps13
      go_wp2_with fail
      refine (rSmall_num a _ hM0 hM1).mono ?_
      rintro e w1 ⟨Am, cm, km, rfl, n1, b1⟩
      have V1 := Lib.hid ((V0.out.go b1).num n1)
      clear n1 b1
      go_wp2_with fail
      refine (rSmall_num b _ (by omega) hN1).mono ?_
      rintro e w2 ⟨An, cn, kn, rfl, n2, b2⟩
      have V2 := Lib.hid ((V1.out.go b2).num n2)
      clear n2 b2
      have HB2 := Lib.hid (btwo HBE.out V2.out.2.2)
      go_wp2_with fail
      refine (rlowest_num _ km cm kn cn a b Am An _ (V2.out.at (.tail _ (.head _))) (V2.out.at (.head _)) hg).mono ?_
      rintro e w3 ⟨Ap, cp, kp, Aq, cq, kq, rfl, n3, m3, b3⟩
      have HB3 := Lib.hid (btwo HB2.out b3)
      have N3 := Lib.hid n3
      have M3 := Lib.hid m3
      have K3 := Lib.hid ((HKE.out.go V2.out.2.2).go b3)
      clear n3 m3 b3
      obtain ⟨k0, k1, k2, k3, k4, k5, k6⟩ := K3.out.facts
      go_wp2_with fail
      refine bodyPost_ret (v := .tuple #[.agg #[.bool false, .slice Ap kp cp, .slice Aq kq cq], .int .i64 0]) ?_ rfl ?_
      · simp [results, Tryz.results13, go_sem, k0, k1, k2]
      · have e : (decide (a < 0) != decide (b < 0) && !decide (a / gcdI a b = 0)) = false := by rw [da, db]; rfl
        rw [e]
        have h := fr_ok (s := false) K3.out (Nat.le_refl _) N3.out M3.out HB3.out
        exact h
theorem fof3_any (a b : Int) (W : World) : Calls Tryz.prog 12 #[.int .i64 a, .int .i64 b] W (FrE (ofR a b) W) := by
  unfold ofR
  by_cases hb : b = 0
  · subst hb
    rw [if_pos rfl]
    exact (fof_zero a W).mono fun e w' h => h.any
  · rw [if_neg hb]
    by_cases h : a < -1000000000000000 ∨ a > 1000000000000000 ∨ b < -1000000000000000 ∨ b > 1000000000000000
    · rw [if_pos h]
      exact (fof_big a b W hb h).mono fun e w' h => h.any
    · rw [if_neg h]
      exact (fof_good a b _ _ W (by omega) (by omega) (by omega) (by omega) hb rfl rfl).mono fun e w' h => h.any
theorem rof3_any (a b : Int) (W : World) : Calls Tryz.prog 13 #[.int .i64 a, .int .i64 b] W (FrE (ofR a b) W) := by
  unfold ofR
  by_cases hb : b = 0
  · subst hb
    rw [if_pos rfl]
    exact (rof_zero a W).mono fun e w' h => h.any
  · rw [if_neg hb]
    by_cases h : a < -1000000000000000 ∨ a > 1000000000000000 ∨ b < -1000000000000000 ∨ b > 1000000000000000
    · rw [if_pos h]
      exact (rof_big a b W hb h).mono fun e w' h => h.any
    · rw [if_neg h]
      exact (rof_good a b _ _ W (by omega) (by omega) (by omega) (by omega) hb rfl rfl).mono fun e w' h => h.any
set_option maxHeartbeats 4000000 in
theorem fnew_any (L M : List Int) (n c m d : Nat) (A B : Option Addr) (W : World) (hn : L.length = n) (hm : M.length = m) (hnc : n ≤ c) (hmd : m ≤ d) (hc63 : c ≤ maxLen) (hd63 : d ≤ maxLen) (hA : IntsIn W A L) (hB : IntsIn W B M) :
    Calls Tryz.prog 14 #[.agg #[.slice A n c], .agg #[.slice B m d]] W (FrE (newR L M) W) := by
  obtain ⟨E, hE⟩ : ∃ E : World, E = ((W.alloc (.cells #[.slice A n c] 24)).alloc (.cells #[.slice B m d] 24)).alloc (.cells #[.bool false, .slice none 0 0, .slice none 0 0] 30) := ⟨_, rfl⟩
  have BE : Below W.heap.size W E := by rw [hE]; exact btwo two_box one_new
  have KE : KeptF (W.heap.size + 1 + 1) E := by
    have := keptF_new ((W.alloc (.cells #[.slice A n c] 24)).alloc (.cells #[.slice B m d] 24))
    rw [← hE] at this
    simpa using this
  have VW := (LiveA.start W).new2 (.slice A n c) (.slice B m d) 24
  have V0 := Lib.hid (show LiveA E [(⟨W.heap.size + 1, 0, none⟩, .slice B m d), (⟨W.heap.size, 0, none⟩, .slice A n c)] [] E by
    have h := VW.go (one_new (o := .cells #[.bool false, .slice none 0 0, .slice none 0 0] 30))
    rw [← hE] at h
    exact ⟨h.1, h.2.1, Below.refl _ _⟩)
  have HKE := Lib.hid KE
  have HBE := Lib.hid BE
  have HA := Lib.hid (hA.below BE)
  have HB := Lib.hid (hB.below BE)
  have HN := Lib.hid hn
  have HM := Lib.hid hm
  have hn63 : n ≤ maxLen := Nat.le_trans hnc hc63
  have hm63 : m ≤ maxLen := Nat.le_trans hmd hd63
  have HNL := Lib.hid (fun (w : World) (h : IntsIn w A L) (v : vldB L = true) => num_mk hn hnc hc63 h v)
  have HNM := Lib.hid (fun (w : World) (h : IntsIn w B M) (v : vldB M = true) => num_mk hm hmd hd63 h v)
  clear VW KE BE hA hB hn hm
  subst hE
  by_cases h1 : vldB L = true
  · by_cases h2 : vldB M = true
    · have H1 := Lib.hid h1
      have H2 := Lib.hid h2
      have NL := Lib.hid (HNL.out _ HA.out h1)
      have NM := Lib.hid (HNM.out _ HB.out h2)
      by_cases h0 : val M = 0
      · have HR := Lib.hid (show newR L M = (false, 0, 0, 6) by unfold newR; rw [if_neg (fun h => h ⟨h1, h2⟩), if_pos h0])
        have HZ := Lib.hid (show decide (m = 0) = true by have := NM.out.slice; exact decide_eq_true (by rw [this.2.1, h0, digs_zero]; rfl))
        clear h0 h1 h2
        go_enter Tryz.func14, Tryz.ntmps14
        go_wp2_with fail
        refine (valid_any L n c A _ HN.out hn63 HA.out).mono ?_
        rintro e w1 ⟨rfl, b1⟩
        rw [H1.out]
        have V1 := Lib.hid (V0.out.go b1)
        have HB1 := Lib.hid b1
        clear b1
        obtain ⟨x1_y, y1_y⟩ := V1.out.box (.head _)
        go_wp2_with fail
        refine (valid_any M m d B _ HM.out hm63 (HB.out.below HB1.out)).mono ?_
        rintro e w2 ⟨rfl, b2⟩
        rw [H2.out]
        have V2 := Lib.hid (V1.out.go b2)
        clear b2 x1_y y1_y
        obtain ⟨x2_y, y2_y⟩ := V2.out.box (.head _)
        go_wp2_with fail
        refine (isZero_len m d B _ hm63).mono ?_
        rintro e w3 ⟨rfl, b3⟩
        rw [HZ.out]
        have V3 := Lib.hid (V2.out.go b3)
        clear b3 x2_y y2_y
        have HK9 := Lib.hid (HKE.out.go V3.out.2.2)
        have HB9 := Lib.hid (btwo HBE.out V3.out.2.2)
        obtain ⟨j0, j1, j2, j3, j4, j5, j6⟩ := HK9.out.facts
        go_wp2_with fail
        refine bodyPost_ret (v := .tuple #[.agg #[.bool false, .slice none 0 0, .slice none 0 0], .int .i64 6]) ?_ rfl ?_
        · simp [results, Tryz.results14, go_sem, j0, j1, j2]
        · rw [HR.out]; exact (fr_err (g := W.heap.size + 1 + 1) (by omega) HB9.out).any
      · have HR := Lib.hid (show newR L M = (false, val L / gcdI (val L) (val M), val M / gcdI (val L) (val M), 0) by unfold newR; rw [if_neg (fun h => h ⟨h1, h2⟩), if_neg h0])
        have HZ := Lib.hid (show decide (m = 0) = false by have := NM.out.slice; exact decide_eq_false (fun e => h0 ((len_zero this.1).1 (by rw [← this.2.1]; exact e))))
        have HG := Lib.hid (show 0 < gcdI (val L) (val M) by have := NM.out.1; rw [gcdI_comm]; exact gcdI_pos (by omega))
        clear h0 h1 h2
        go_enter Tryz.func14, Tryz.ntmps14
        go_wp2_with fail
        refine (valid_any L n c A _ HN.out hn63 HA.out).mono ?_
        rintro e w1 ⟨rfl, b1⟩
        rw [H1.out]
        have V1 := Lib.hid (V0.out.go b1)
        have HB1 := Lib.hid b1
        clear b1
        obtain ⟨x1_y, y1_y⟩ := V1.out.box (.head _)
        go_wp2_with fail
        refine (valid_any M m d B _ HM.out hm63 (HB.out.below HB1.out)).mono ?_
        rintro e w2 ⟨rfl, b2⟩
        rw [H2.out]
        have V2 := Lib.hid (V1.out.go b2)
        clear b2 x1_y y1_y
        obtain ⟨x2_y, y2_y⟩ := V2.out.box (.head _)
        go_wp2_with fail
        refine (isZero_len m d B _ hm63).mono ?_
        rintro e w3 ⟨rfl, b3⟩
        rw [HZ.out]
        have V3 := Lib.hid (V2.out.go b3)
        clear b3 x2_y y2_y
        obtain ⟨x3_y, y3_y⟩ := V3.out.box (.head _)
        obtain ⟨x3_x, y3_x⟩ := V3.out.box (.tail _ (.head _))
        have HB3 := Lib.hid (btwo HBE.out V3.out.2.2)
        go_wp2_with fail
        refine (lowest_num false n c m d (val L) (val M) A B _ (NL.out.below V3.out.2.2) (NM.out.below V3.out.2.2) HG.out).mono ?_
        rintro e w4 ⟨Ap, cp, kp, Aq, cq, kq, rfl, n4, m4, b4⟩
        have HB4 := Lib.hid (btwo HB3.out b4)
        have N4 := Lib.hid n4
        have M4 := Lib.hid m4
        have K4 := Lib.hid ((HKE.out.go V3.out.2.2).go b4)
        clear n4 m4 b4 x3_y y3_y x3_x y3_x
        obtain ⟨k0, k1, k2, k3, k4, k5, k6⟩ := K4.out.facts
        go_wp2_with fail
        rw [HR.out]
        refine bodyPost_ret (v := .tuple #[.agg #[.bool false, .slice Ap kp cp, .slice Aq kq cq], .int .i64 0]) ?_ rfl ?_
        · simp [results, Tryz.results14, go_sem, k0, k1, k2]
        · exact (fr_ok (s := false) K4.out (by omega) N4.out M4.out HB4.out).any
    · have H1 := Lib.hid h1
      have H2 := Lib.hid (show vldB M = false by simpa using h2)
      have HR := Lib.hid (show newR L M = (false, 0, 0, 1) by unfold newR; rw [if_pos (fun h => h2 h.2)])
      clear h1 h2
      go_enter Tryz.func14, Tryz.ntmps14
      go_wp2_with fail
      refine (valid_any L n c A _ HN.out hn63 HA.out).mono ?_
      rintro e w1 ⟨rfl, b1⟩
      rw [H1.out]
      have V1 := Lib.hid (V0.out.go b1)
      have HB1 := Lib.hid b1
      clear b1
      obtain ⟨x1_y, y1_y⟩ := V1.out.box (.head _)
      go_wp2_with fail
      refine (valid_any M m d B _ HM.out hm63 (HB.out.below HB1.out)).mono ?_
      rintro e w2 ⟨rfl, b2⟩
      rw [H2.out]
      have V2 := Lib.hid (V1.out.go b2)
      clear b2 x1_y y1_y
      have HK9 := Lib.hid (HKE.out.go V2.out.2.2)
      have HB9 := Lib.hid (btwo HBE.out V2.out.2.2)
      obtain ⟨j0, j1, j2, j3, j4, j5, j6⟩ := HK9.out.facts
      go_wp2_with fail
      refine bodyPost_ret (v := .tuple #[.agg #[.bool false, .slice none 0 0, .slice none 0 0], .int .i64 1]) ?_ rfl ?_
      · simp [results, Tryz.results14, go_sem, j0, j1, j2]
      · rw [HR.out]; exact (fr_err (g := W.heap.size + 1 + 1) (by omega) HB9.out).any
  · have H1 := Lib.hid (show vldB L = false by simpa using h1)
    have HR := Lib.hid (show newR L M = (false, 0, 0, 1) by unfold newR; rw [if_pos (fun h => h1 h.1)])
    clear h1
    go_enter Tryz.func14, Tryz.ntmps14
    go_wp2_with fail
    refine (valid_any L n c A _ HN.out hn63 HA.out).mono ?_
    rintro e w1 ⟨rfl, b1⟩
    rw [H1.out]
    have V1 := Lib.hid (V0.out.go b1)
    have HB1 := Lib.hid b1
    clear b1
    have HK9 := Lib.hid (HKE.out.go V1.out.2.2)
    have HB9 := Lib.hid (btwo HBE.out V1.out.2.2)
    obtain ⟨j0, j1, j2, j3, j4, j5, j6⟩ := HK9.out.facts
    go_wp2_with fail
    refine bodyPost_ret (v := .tuple #[.agg #[.bool false, .slice none 0 0, .slice none 0 0], .int .i64 1]) ?_ rfl ?_
    · simp [results, Tryz.results14, go_sem, j0, j1, j2]
    · rw [HR.out]; exact (fr_err (g := W.heap.size + 1 + 1) (by omega) HB9.out).any
set_option maxHeartbeats 4000000 in
theorem rnew_any (L M : List Int) (n c m d : Nat) (A B : Option Addr) (W : World) (hn : L.length = n) (hm : M.length = m) (hnc : n ≤ c) (hmd : m ≤ d) (hc63 : c ≤ maxLen) (hd63 : d ≤ maxLen) (hA : IntsIn W A L) (hB : IntsIn W B M) :
    Calls Tryz.prog 15 #[.agg #[.slice A n c], .agg #[.slice B m d]] W (FrE (newR L M) W) := by
  obtain ⟨E, hE⟩ : ∃ E : World, E = ((W.alloc (.cells #[.slice A n c] 24)).alloc (.cells #[.slice B m d] 24)).alloc (.cells #[.bool false, .slice none 0 0, .slice none 0 0] 30) := ⟨_, rfl⟩
  have BE : Below W.heap.size W E := by rw [hE]; exact btwo two_box one_new
  have KE : KeptF (W.heap.size + 1 + 1) E := by
    have := keptF_new ((W.alloc (.cells #[.slice A n c] 24)).alloc (.cells #[.slice B m d] 24))
    rw [← hE] at this
    simpa using this
  have VW := (LiveA.start W).new2 (.slice A n c) (.slice B m d) 24
  have V0 := Lib.hid (show LiveA E [(⟨W.heap.size + 1, 0, none⟩, .slice B m d), (⟨W.heap.size, 0, none⟩, .slice A n c)] [] E by
    have h := VW.go (one_new (o := .cells #[.bool false, .slice none 0 0, .slice none 0 0] 30))
    rw [← hE] at h
    exact ⟨h.1, h.2.1, Below.refl _ _⟩)
  have HKE := Lib.hid KE
  have HBE := Lib.hid BE
  have HA := Lib.hid (hA.below BE)
  have HB := Lib.hid (hB.below BE)
  have HN := Lib.hid hn
  have HM := Lib.hid hm
  have hn63 : n ≤ maxLen := Nat.le_trans hnc hc63
  have hm63 : m ≤ maxLen := Nat.le_trans hmd hd63
  have HNL := Lib.hid (fun (w : World) (h : IntsIn w A L) (v : vldB L = true) => num_mk hn hnc hc63 h v)
  have HNM := Lib.hid (fun (w : World) (h : IntsIn w B M) (v : vldB M = true) => num_mk hm hmd hd63 h v)
  clear VW KE BE hA hB hn hm
  subst hE
  by_cases h1 : vldB L = true
  · by_cases h2 : vldB M = true
    · have H1 := Lib.hid h1
      have H2 := Lib.hid h2
      have NL := Lib.hid (HNL.out _ HA.out h1)
      have NM := Lib.hid (HNM.out _ HB.out h2)
      by_cases h0 : val M = 0
      · have HR := Lib.hid (show newR L M = (false, 0, 0, 6) by unfold newR; rw [if_neg (fun h => h ⟨h1, h2⟩), if_pos h0])
        have HZ := Lib.hid (show decide (m = 0) = true by have := NM.out.slice; exact decide_eq_true (by rw [this.2.1, h0, digs_zero]; rfl))
        clear h0 h1 h2
        go_enter Tryz.func15, Tryz.ntmps15
        go_wp2_with fail
        refine (rvalid_any L n c A _ HN.out hn63 HA.out).mono ?_
        rintro e w1 ⟨rfl, b1⟩
        rw [H1.out]
        have V1 := Lib.hid (V0.out.go b1)
        have HB1 := Lib.hid b1
        clear b1
        obtain ⟨x1_y, y1_y⟩ := V1.out.box (.head _)
        go_wp2_with fail
        refine (rvalid_any M m d B _ HM.out hm63 (HB.out.below HB1.out)).mono ?_
        rintro e w2 ⟨rfl, b2⟩
        rw [H2.out]
        have V2 := Lib.hid (V1.out.go b2)
        clear b2 x1_y y1_y
        obtain ⟨x2_y, y2_y⟩ := V2.out.box (.head _)
        go_wp2_with fail
        refine (rzero_len m d B _ hm63).mono ?_
        rintro e w3 ⟨rfl, b3⟩
        rw [HZ.out]
        have V3 := Lib.hid (V2.out.go b3)
        clear b3 x2_y y2_y
        have HK9 := Lib.hid (HKE.out.go V3.out.2.2)
        have HB9 := Lib.hid (btwo HBE.out V3.out.2.2)
        obtain ⟨j0, j1, j2, j3, j4, j5, j6⟩ := HK9.out.facts
        go_wp2_with fail
        refine bodyPost_ret (v := .tuple #[.agg #[.bool false, .slice none 0 0, .slice none 0 0], .int .i64 6]) ?_ rfl ?_
        · simp [results, Tryz.results15, go_sem, j0, j1, j2]
        · rw [HR.out]; exact (fr_err (g := W.heap.size + 1 + 1) (by omega) HB9.out).any
      · have HR := Lib.hid (show newR L M = (false, val L / gcdI (val L) (val M), val M / gcdI (val L) (val M), 0) by unfold newR; rw [if_neg (fun h => h ⟨h1, h2⟩), if_neg h0])
        have HZ := Lib.hid (show decide (m = 0) = false by have := NM.out.slice; exact decide_eq_false (fun e => h0 ((len_zero this.1).1 (by rw [← this.2.1]; exact e))))
        have HG := Lib.hid (show 0 < gcdI (val L) (val M) by have := NM.out.1; rw [gcdI_comm]; exact gcdI_pos (by omega))
        clear h0 h1 h2
        go_enter Tryz.func15, Tryz.ntmps15
        go_wp2_with fail
        refine (rvalid_any L n c A _ HN.out hn63 HA.out).mono ?_
        rintro e w1 ⟨rfl, b1⟩
        rw [H1.out]
        have V1 := Lib.hid (V0.out.go b1)
        have HB1 := Lib.hid b1
        clear b1
        obtain ⟨x1_y, y1_y⟩ := V1.out.box (.head _)
        go_wp2_with fail
        refine (rvalid_any M m d B _ HM.out hm63 (HB.out.below HB1.out)).mono ?_
        rintro e w2 ⟨rfl, b2⟩
        rw [H2.out]
        have V2 := Lib.hid (V1.out.go b2)
        clear b2 x1_y y1_y
        obtain ⟨x2_y, y2_y⟩ := V2.out.box (.head _)
        go_wp2_with fail
        refine (rzero_len m d B _ hm63).mono ?_
        rintro e w3 ⟨rfl, b3⟩
        rw [HZ.out]
        have V3 := Lib.hid (V2.out.go b3)
        clear b3 x2_y y2_y
        obtain ⟨x3_y, y3_y⟩ := V3.out.box (.head _)
        obtain ⟨x3_x, y3_x⟩ := V3.out.box (.tail _ (.head _))
        have HB3 := Lib.hid (btwo HBE.out V3.out.2.2)
        go_wp2_with fail
        refine (rlowest_num false n c m d (val L) (val M) A B _ (NL.out.below V3.out.2.2) (NM.out.below V3.out.2.2) HG.out).mono ?_
        rintro e w4 ⟨Ap, cp, kp, Aq, cq, kq, rfl, n4, m4, b4⟩
        have HB4 := Lib.hid (btwo HB3.out b4)
        have N4 := Lib.hid n4
        have M4 := Lib.hid m4
        have K4 := Lib.hid ((HKE.out.go V3.out.2.2).go b4)
        clear n4 m4 b4 x3_y y3_y x3_x y3_x
        obtain ⟨k0, k1, k2, k3, k4, k5, k6⟩ := K4.out.facts
        go_wp2_with fail
        rw [HR.out]
        refine bodyPost_ret (v := .tuple #[.agg #[.bool false, .slice Ap kp cp, .slice Aq kq cq], .int .i64 0]) ?_ rfl ?_
        · simp [results, Tryz.results15, go_sem, k0, k1, k2]
        · exact (fr_ok (s := false) K4.out (by omega) N4.out M4.out HB4.out).any
    · have H1 := Lib.hid h1
      have H2 := Lib.hid (show vldB M = false by simpa using h2)
      have HR := Lib.hid (show newR L M = (false, 0, 0, 1) by unfold newR; rw [if_pos (fun h => h2 h.2)])
      clear h1 h2
      go_enter Tryz.func15, Tryz.ntmps15
      go_wp2_with fail
      refine (rvalid_any L n c A _ HN.out hn63 HA.out).mono ?_
      rintro e w1 ⟨rfl, b1⟩
      rw [H1.out]
      have V1 := Lib.hid (V0.out.go b1)
      have HB1 := Lib.hid b1
      clear b1
      obtain ⟨x1_y, y1_y⟩ := V1.out.box (.head _)
      go_wp2_with fail
      refine (rvalid_any M m d B _ HM.out hm63 (HB.out.below HB1.out)).mono ?_
      rintro e w2 ⟨rfl, b2⟩
      rw [H2.out]
      have V2 := Lib.hid (V1.out.go b2)
      clear b2 x1_y y1_y
      have HK9 := Lib.hid (HKE.out.go V2.out.2.2)
      have HB9 := Lib.hid (btwo HBE.out V2.out.2.2)
      obtain ⟨j0, j1, j2, j3, j4, j5, j6⟩ := HK9.out.facts
      go_wp2_with fail
      refine bodyPost_ret (v := .tuple #[.agg #[.bool false, .slice none 0 0, .slice none 0 0], .int .i64 1]) ?_ rfl ?_
      · simp [results, Tryz.results15, go_sem, j0, j1, j2]
      · rw [HR.out]; exact (fr_err (g := W.heap.size + 1 + 1) (by omega) HB9.out).any
  · have H1 := Lib.hid (show vldB L = false by simpa using h1)
    have HR := Lib.hid (show newR L M = (false, 0, 0, 1) by unfold newR; rw [if_pos (fun h => h1 h.1)])
    clear h1
    go_enter Tryz.func15, Tryz.ntmps15
    go_wp2_with fail
    refine (rvalid_any L n c A _ HN.out hn63 HA.out).mono ?_
    rintro e w1 ⟨rfl, b1⟩
    rw [H1.out]
    have V1 := Lib.hid (V0.out.go b1)
    have HB1 := Lib.hid b1
    clear b1
    have HK9 := Lib.hid (HKE.out.go V1.out.2.2)
    have HB9 := Lib.hid (btwo HBE.out V1.out.2.2)
    obtain ⟨j0, j1, j2, j3, j4, j5, j6⟩ := HK9.out.facts
    go_wp2_with fail
    refine bodyPost_ret (v := .tuple #[.agg #[.bool false, .slice none 0 0, .slice none 0 0], .int .i64 1]) ?_ rfl ?_
    · simp [results, Tryz.results15, go_sem, j0, j1, j2]
    · rw [HR.out]; exact (fr_err (g := W.heap.size + 1 + 1) (by omega) HB9.out).any
end Go.Proofs.YtpinnopdimjfjaaGreatDoor
