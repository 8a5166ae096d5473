/- Contract of Of of fractions, for arguments in range. -/
import Derived.Test.YtpinnopdimjfjaaGreatDoorFb
namespace Go.Proofs.YtpinnopdimjfjaaGreatDoor
open Go.RowKit
set_option linter.unusedVariables false
set_option maxRecDepth 100000

/-- A call that returns a fraction and no error. -/
def FrOk (s : Bool) (p q : Int) (W : World) (e : Ending) (w' : World) : Prop :=
  ∃ A c k B d l, e = .returned (.tuple #[.agg #[.bool s, .slice A k c, .slice B l d], .int .i64 0]) ∧ NumAt w' (.slice A k c) p ∧ NumAt w' (.slice B l d) q ∧ Below W.heap.size W w'
theorem of_num (N : Int) (W : World) (h0 : 0 ≤ N) (h1 : N ≤ 9223372036854775807) : Calls Tryz.prog 41 #[.int .i64 N] W (ValPost N W) := by
  have hl : (digs N).length ≤ 5 := digs_len_le (n := N) (k := 5) (by rw [pw5]; omega)
  have hv : ofV N = (N, 0) := by unfold ofV; rw [if_neg (by omega)]
  exact (of_any N W h1).mono fun e w' h => val_post h hv h0 (by omega)
theorem fr_ok {W w : World} {g : Nat} {s : Bool} {p q : Int} {A B : Option Addr} {k c l d : Nat} (hg : KeptF g w) (hW : W.heap.size ≤ g) (hp : NumAt w (.slice A k c) p) (hq : NumAt w (.slice B l d) q) (hb : Below W.heap.size W w) :
    FrOk s p q W (.returned (.tuple #[.agg #[.bool s, .slice A k c, .slice B l d], .int .i64 0])) (((w.setCell ⟨g, 0, none⟩ (.bool s)).setCell ⟨g, 1, none⟩ (.slice A k c)).setCell ⟨g, 2, none⟩ (.slice B l d)) := by
  exact ⟨A, c, k, B, d, l, rfl, hp.storeF hg, hq.storeF hg, ((hb.setCell (p := ⟨g, 0, none⟩) hW _).setCell (p := ⟨g, 1, none⟩) hW _).setCell (p := ⟨g, 2, none⟩) hW _⟩
set_option maxHeartbeats 4000000 in
theorem fof_good (a b M N : Int) (W : World) (ha0 : -1000000000000000 ≤ a) (ha1 : a ≤ 1000000000000000) (hb0 : -1000000000000000 ≤ b) (hb1 : b ≤ 1000000000000000) (hb : ¬ b = 0) (hM : M = max a (-a)) (hN : N = max b (-b)) :
    Calls Tryz.prog 12 #[.int .i64 a, .int .i64 b] W (FrOk ((decide (a < 0) != decide (b < 0)) && !decide (M / gcdI M N = 0)) (M / gcdI M N) (N / gcdI M N) W) := by
  have hM0 : 0 ≤ M := by omega
  have hM1 : M ≤ 1000000000000000 := by omega
  have hN0 : 0 < N := by omega
  have hN1 : N ≤ 1000000000000000 := by omega
  have hg : 0 < gcdI M N := by rw [gcdI_comm]; exact gcdI_pos hN0
  have HBE := Lib.hid (show Below W.heap.size W (W.alloc (.cells #[.bool false, .slice none 0 0, .slice none 0 0] 30)) from one_new)
  have HKE := Lib.hid (keptF_new W)
  have V0 := Lib.hid (LiveA.start (W.alloc (.cells #[.bool false, .slice none 0 0, .slice none 0 0] 30)))
  have e1 : IntKind.i64.wrap (-a) = -a := IntWalk.i64_in _ (by omega)
  have e2 : IntKind.i64.wrap (-b) = -b := IntWalk.i64_in _ (by omega)
  have e3 : max a (-a) = M := hM.symm
  have e4 : max b (-b) = N := hN.symm
  have e5 : (b == 0) = false := by simpa using hb
  clear hM hN hb
  by_cases hna : a < 0
  · by_cases hnb : b < 0
    · have da : decide (a < 0) = true := decide_eq_true hna
      have db : decide (b < 0) = true := decide_eq_true hnb
      clear hna hnb
      go_enter Tryz.func12, Tryz.ntmps12
      go_wp2_with fail
      refine (of_num M _ hM0 (by omega)).mono ?_
      rintro e w1 ⟨Am, cm, km, rfl, n1, b1⟩
      have U1 := Lib.hid ((V0.out.go b1).num n1)
      clear n1 b1
      have V1 := Lib.hid (U1.out.new (.slice Am km cm) 24)
      go_wp2_with fail
      refine (of_num N _ (by omega) (by omega)).mono ?_
      rintro e w2 ⟨An, cn, kn, rfl, n2, b2⟩
      have U2 := Lib.hid ((V1.out.go b2).num n2)
      clear n2 b2
      obtain ⟨x2_m, y2_m⟩ := U2.out.box (.head _)
      have V2 := Lib.hid (U2.out.new (.slice An kn cn) 24)
      have HB2 := Lib.hid (btwo HBE.out V2.out.2.2)
      go_wp2_with fail
      refine (lowest_num _ km cm kn cn M N Am An _ (V2.out.at (.tail _ (.head _))) (V2.out.at (.head _)) hg).mono ?_
      rintro e w3 ⟨Ap, cp, kp, Aq, cq, kq, rfl, n3, m3, b3⟩
      have HB3 := Lib.hid (btwo HB2.out b3)
      have N3 := Lib.hid n3
      have M3 := Lib.hid m3
      have K3 := Lib.hid ((HKE.out.go V2.out.2.2).go b3)
      clear n3 m3 b3
      obtain ⟨k0, k1, k2, k3, k4, k5, k6⟩ := K3.out.facts
      go_wp2_with fail
      refine bodyPost_ret (v := .tuple #[.agg #[.bool false, .slice Ap kp cp, .slice Aq kq cq], .int .i64 0]) ?_ rfl ?_
      · simp [results, Tryz.results12, go_sem, k0, k1, k2]
      · have e : (decide (a < 0) != decide (b < 0) && !decide (M / gcdI M N = 0)) = false := by rw [da, db]; rfl
        rw [e]
        have h := fr_ok (s := false) K3.out (Nat.le_refl _) N3.out M3.out HB3.out
        exact h
    · have da : decide (a < 0) = true := decide_eq_true hna
      have db : decide (b < 0) = false := decide_eq_false hnb
      clear hna hnb
      go_enter Tryz.func12, Tryz.ntmps12
      go_wp2_with fail
      refine (of_num M _ hM0 (by omega)).mono ?_
      rintro e w1 ⟨Am, cm, km, rfl, n1, b1⟩
      have U1 := Lib.hid ((V0.out.go b1).num n1)
      clear n1 b1
      have V1 := Lib.hid (U1.out.new (.slice Am km cm) 24)
      go_wp2_with fail
      refine (of_num N _ (by omega) (by omega)).mono ?_
      rintro e w2 ⟨An, cn, kn, rfl, n2, b2⟩
      have U2 := Lib.hid ((V1.out.go b2).num n2)
      clear n2 b2
      obtain ⟨x2_m, y2_m⟩ := U2.out.box (.head _)
      have V2 := Lib.hid (U2.out.new (.slice An kn cn) 24)
      have HB2 := Lib.hid (btwo HBE.out V2.out.2.2)
      go_wp2_with fail
      refine (lowest_num _ km cm kn cn M N Am An _ (V2.out.at (.tail _ (.head _))) (V2.out.at (.head _)) hg).mono ?_
      rintro e w3 ⟨Ap, cp, kp, Aq, cq, kq, rfl, n3, m3, b3⟩
      have HB3 := Lib.hid (btwo HB2.out b3)
      have N3 := Lib.hid n3
      have M3 := Lib.hid m3
      have K3 := Lib.hid ((HKE.out.go V2.out.2.2).go b3)
      clear n3 m3 b3
      obtain ⟨k0, k1, k2, k3, k4, k5, k6⟩ := K3.out.facts
      go_wp2_with fail
      refine bodyPost_ret (v := .tuple #[.agg #[.bool (!decide (M / gcdI M N = 0)), .slice Ap kp cp, .slice Aq kq cq], .int .i64 0]) ?_ rfl ?_
      · simp [results, Tryz.results12, go_sem, k0, k1, k2]
      · have e : (decide (a < 0) != decide (b < 0) && !decide (M / gcdI M N = 0)) = (!decide (M / gcdI M N = 0)) := by rw [da, db]; rfl
        rw [e]
        have h := fr_ok (s := (!decide (M / gcdI M N = 0))) K3.out (Nat.le_refl _) N3.out M3.out HB3.out
        exact h
  · by_cases hnb : b < 0
    · have da : decide (a < 0) = false := decide_eq_false hna
      have db : decide (b < 0) = true := decide_eq_true hnb
      clear hna hnb
      go_enter Tryz.func12, Tryz.ntmps12
      go_wp2_with fail
      refine (of_num M _ hM0 (by omega)).mono ?_
      rintro e w1 ⟨Am, cm, km, rfl, n1, b1⟩
      have U1 := Lib.hid ((V0.out.go b1).num n1)
      clear n1 b1
      have V1 := Lib.hid (U1.out.new (.slice Am km cm) 24)
      go_wp2_with fail
      refine (of_num N _ (by omega) (by omega)).mono ?_
      rintro e w2 ⟨An, cn, kn, rfl, n2, b2⟩
      have U2 := Lib.hid ((V1.out.go b2).num n2)
      clear n2 b2
      obtain ⟨x2_m, y2_m⟩ := U2.out.box (.head _)
      have V2 := Lib.hid (U2.out.new (.slice An kn cn) 24)
      have HB2 := Lib.hid (btwo HBE.out V2.out.2.2)
      go_wp2_with fail
      refine (lowest_num _ km cm kn cn M N Am An _ (V2.out.at (.tail _ (.head _))) (V2.out.at (.head _)) hg).mono ?_
      rintro e w3 ⟨Ap, cp, kp, Aq, cq, kq, rfl, n3, m3, b3⟩
      have HB3 := Lib.hid (btwo HB2.out b3)
      have N3 := Lib.hid n3
      have M3 := Lib.hid m3
      have K3 := Lib.hid ((HKE.out.go V2.out.2.2).go b3)
      clear n3 m3 b3
      obtain ⟨k0, k1, k2, k3, k4, k5, k6⟩ := K3.out.facts
      go_wp2_with fail
      refine bodyPost_ret (v := .tuple #[.agg #[.bool (!decide (M / gcdI M N = 0)), .slice Ap kp cp, .slice Aq kq cq], .int .i64 0]) ?_ rfl ?_
      · simp [results, Tryz.results12, go_sem, k0, k1, k2]
      · have e : (decide (a < 0) != decide (b < 0) && !decide (M / gcdI M N = 0)) = (!decide (M / gcdI M N = 0)) := by rw [da, db]; rfl
        rw [e]
        have h := fr_ok (s := (!decide (M / gcdI M N = 0))) K3.out (Nat.le_refl _) N3.out M3.out HB3.out
        exact h
    · have da : decide (a < 0) = false := decide_eq_false hna
      have db : decide (b < 0) = false := decide_eq_false hnb
      clear hna hnb
      go_enter Tryz.func12, Tryz.ntmps12
      go_wp2_with fail
      refine (of_num M _ hM0 (by omega)).mono ?_
      rintro e w1 ⟨Am, cm, km, rfl, n1, b1⟩
      have U1 := Lib.hid ((V0.out.go b1).num n1)
      clear n1 b1
      have V1 := Lib.hid (U1.out.new (.slice Am km cm) 24)
      go_wp2_with fail
      refine (of_num N _ (by omega) (by omega)).mono ?_
      rintro e w2 ⟨An, cn, kn, rfl, n2, b2⟩
      have U2 := Lib.hid ((V1.out.go b2).num n2)
      clear n2 b2
      obtain ⟨x2_m, y2_m⟩ := U2.out.box (.head _)
      have V2 := Lib.hid (U2.out.new (.slice An kn cn) 24)
      have HB2 := Lib.hid (btwo HBE.out V2.out.2.2)
      go_wp2_with fail
      refine (lowest_num _ km cm kn cn M N Am An _ (V2.out.at (.tail _ (.head _))) (V2.out.at (.head _)) hg).mono ?_
      rintro e w3 ⟨Ap, cp, kp, Aq, cq, kq, rfl, n3, m3, b3⟩
      have HB3 := Lib.hid (btwo HB2.out b3)
      have N3 := Lib.hid n3
      have M3 := Lib.hid m3
      have K3 := Lib.hid ((HKE.out.go V2.out.2.2).go b3)
      clear n3 m3 b3
      obtain ⟨k0, k1, k2, k3, k4, k5, k6⟩ := K3.out.facts
      go_wp2_with fail
      refine bodyPost_ret (v := .tuple #[.agg #[.bool false, .slice Ap kp cp, .slice Aq kq cq], .int .i64 0]) ?_ rfl ?_
      · simp [results, Tryz.results12, go_sem, k0, k1, k2]
      · have e : (decide (a < 0) != decide (b < 0) && !decide (M / gcdI M N = 0)) = false := by rw [da, db]; rfl
        rw [e]
        have h := fr_ok (s := false) K3.out (Nat.le_refl _) N3.out M3.out HB3.out
        exact h
end Go.Proofs.YtpinnopdimjfjaaGreatDoor
