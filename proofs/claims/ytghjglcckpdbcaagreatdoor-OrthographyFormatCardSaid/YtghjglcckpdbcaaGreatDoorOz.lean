/- Contracts: digits, the word of a place in the reference. -/
import Derived.Test.YtghjglcckpdbcaaGreatDoorOi
import Derived.Test.YtghjglcckpdbcaaGreatDoorUr
import Derived.Test.YtghjglcckpdbcaaGreatDoorUs
namespace Go.Proofs.YtghjglcckpdbcaaGreatDoor
open Go.RowKit
set_option linter.unusedVariables false
set_option linter.unusedSimpArgs false
set_option maxRecDepth 100000

theorem dec_dg (i : Nat) (h : i < 100) : (⟨(Lib.decDigits i).toArray⟩ : ByteArray) = bs (dg2 (i : Int)) := by
  have hone : ∀ q : Nat, q < 10 → Lib.decDigits q = [UInt8.ofNat (48 + q)] := fun q hq => by rw [Lib.decDigits, dif_pos hq]
  have key : Lib.decDigits i = dg2 (i : Int) := by
    by_cases h1 : i < 10
    · rw [hone i h1]
      unfold dg2
      rw [if_pos (by omega), show (48 + (i : Int)).toNat = 48 + i by omega]; try rfl
    · rw [Lib.decDigits, dif_neg h1, hone (i / 10) (by omega)]
      unfold dg2
      rw [if_neg (by omega), show (48 + (i : Int) / 10).toNat = 48 + i / 10 by omega, show (48 + (i : Int) % 10).toNat = 48 + i % 10 by omega]; try rfl
  rw [key]; rfl
set_option maxHeartbeats 2000000 in
theorem rdig_one (n : Int) (w : World) (h0 : 0 ≤ n) (h9 : n ≤ 9) : Calls Tryz.prog 43 #[.int .i64 n] w fun e w' => e = .returned (.string (bs (dg2 n))) ∧ w = w' := by
  have hc : n = 0 ∨ n = 1 ∨ n = 2 ∨ n = 3 ∨ n = 4 ∨ n = 5 ∨ n = 6 ∨ n = 7 ∨ n = 8 ∨ n = 9 := by omega
  rcases hc with rfl | rfl | rfl | rfl | rfl | rfl | rfl | rfl | rfl | rfl
  all_goals
    go_enter Tryz.func43, Tryz.ntmps43
    go_wp2_with fail
    go_ret
    exact ⟨rfl, rfl⟩
theorem dg_two {q r : Nat} (hq : 1 ≤ q) (hq9 : q ≤ 9) (hr : r ≤ 9) : dg2 ((q * 10 + r : Nat) : Int) = dg2 (q : Int) ++ dg2 (r : Int) := by
  unfold dg2
  rw [if_neg (by omega), if_pos (by omega), if_pos (by omega), show (48 + ((q * 10 + r : Nat) : Int) / 10) = 48 + (q : Int) by omega, show (48 + ((q * 10 + r : Nat) : Int) % 10) = 48 + (r : Int) by omega]; try rfl
set_option maxHeartbeats 2000000 in
theorem rdig_any (i : Nat) (w : World) (h : i < 100) : Calls Tryz.prog 43 #[.int .i64 (i : Int)] w fun e w' => e = .returned (.string (bs (dg2 (i : Int)))) ∧ w = w' := by
  by_cases h1 : i < 10
  · exact rdig_one (i : Int) w (by omega) (by omega)
  · obtain ⟨q, hq⟩ : ∃ q, q = i / 10 := ⟨_, rfl⟩
    obtain ⟨r, hr⟩ : ∃ r, r = i % 10 := ⟨_, rfl⟩
    have hi : i = q * 10 + r := by omega
    have hqb : 1 ≤ q ∧ q ≤ 9 := by omega
    have hrb : r ≤ 9 := by omega
    have HD := Lib.hid (dg_two hqb.1 hqb.2 hrb)
    subst hi
    clear hq hr
    have e1 : ((((q * 10 + r : Nat) : Int)).tdiv 10) = (q : Int) := by rw [Int.tdiv_eq_ediv_of_nonneg (by omega)]; omega
    have e2 : ((((q * 10 + r : Nat) : Int)).tmod 10) = (r : Int) := by rw [Int.tmod_eq_emod_of_nonneg (by omega)]; omega
    have e3 : ¬ (((q * 10 + r : Nat) : Int) < 10) := by omega
    have HE1 := Lib.hid e1
    have HE2 := Lib.hid e2
    obtain ⟨z, hz⟩ : ∃ z : Int, z = ((q * 10 + r : Nat) : Int) := ⟨_, rfl⟩
    have HZ := Lib.hid hz
    rw [← hz] at e1 e2 e3 ⊢
    have ezb : 0 ≤ z ∧ z ≤ 99 := by omega
    obtain ⟨ez0, ez9⟩ := ezb
    have w1 : IntKind.i64.wrap (z.tdiv 10) = (q : Int) := by rw [e1]; exact IntWalk.i64_in _ (by omega)
    have hdl : (bs (dg2 (q : Int))).size ≤ 2 ∧ (bs (dg2 (r : Int))).size ≤ 2 := ⟨(dg_any (c := (q : Int)) (by omega)).2.2.1, (dg_any (c := (r : Int)) (by omega)).2.2.1⟩
    have s1 := add_run (bs (dg2 (q : Int))) (bs (dg2 (r : Int))) (by omega)
    have HC := Lib.hid (show bs (dg2 (q : Int)) ++ bs (dg2 (r : Int)) = bs (dg2 z) from bs_of (by rw [cat_any, bs_list, bs_list, HZ.out, HD.out]))
    clear hz h h1
    go_enter Tryz.func43, Tryz.ntmps43
    go_wp2_with fail
    refine (rdig_one (q : Int) _ (by omega) (by omega)).mono ?_
    rintro e wa ⟨rfl, hw⟩
    subst hw
    go_wp2_with fail
    refine (rdig_one (r : Int) _ (by omega) (by omega)).mono ?_
    rintro e wa ⟨rfl, hw⟩
    subst hw
    go_wp2_with fail
    go_ret
    exact ⟨by rw [← HC.out]; rfl, rfl⟩
set_option maxHeartbeats 2000000 in
theorem rwhere_any (n : Int) (w : World) (h : 0 ≤ n ∧ n ≤ 4) : Calls Tryz.prog 44 #[.int .i64 n] w fun e w' => e = .returned (.string (bs (wW n))) ∧ Below w.heap.size w w' := by
  rcases ww_cases h with rfl | rfl | rfl | rfl | rfl
  all_goals
    go_enter Tryz.func44, Tryz.ntmps44
    go_wp2_with fail
    go_ret
    exact ⟨rfl, bnew _ _⟩
end Go.Proofs.YtghjglcckpdbcaaGreatDoor
