/- Contract of strings.Repeat of a zero. -/
import Derived.Test.YtpinnopdimjfjaaGreatDoorFa
import Derived.Test.YtpinnopdimjfjaaGreatDoorShelf
namespace Go.Proofs.YtpinnopdimjfjaaGreatDoor
open Go.RowKit
set_option linter.unusedVariables false
set_option maxRecDepth 100000

def zeros (k : Nat) : ByteArray := ⟨(List.replicate k 48).toArray⟩
theorem mul_one (k : Nat) (w : World) (hk : k ≤ 40) : Calls Tryz.prog 90 #[.int .u64 1, .int .u64 (k : Int)] w fun e w' => e = .returned (.tuple #[.int .u64 0, .int .u64 (k : Int)]) ∧ w = w' := by
  refine (Tryz.bits_Mul 1 k (by omega) (by omega) w).mono ?_
  rintro e w' ⟨rfl, rfl⟩
  refine ⟨?_, rfl⟩
  rw [show 1 * k / 18446744073709551616 = 0 by omega, show 1 * k % 18446744073709551616 = k by omega]
  rfl
theorem pre_zero (s : ByteArray) (b : Bool) (w : World) (h : Lib.hasPrefix s.data.toList [48] = b) : Calls Tryz.prog 91 #[.string s, .string ⟨#[48]⟩] w fun e w' => e = .returned (.bool b) ∧ w = w' := by
  refine (Tryz.strings_HasPrefix s ⟨#[48]⟩ w).mono ?_
  rintro e w' ⟨rfl, rfl⟩
  exact ⟨by rw [← h], rfl⟩
set_option maxHeartbeats 4000000 in
theorem repeat_two (k : Nat) (W : World) (h2 : 2 ≤ k) (h20 : k ≤ 40) :
    Calls Tryz.prog 66 #[.string ⟨#[48]⟩, .int .i64 (k : Int)] W fun e w' => e = .returned (.string (zeros k)) ∧ W = w' := by
  have d0 : ((k : Int) == 0) = false := by simp; omega
  have d1 : ((k : Int) == 1) = false := by simp; omega
  go_enter Tryz.func66, Tryz.ntmps66
  go_wp2_with fail
  refine (mul_one k _ h20).mono ?_
  rintro e w' ⟨rfl, rfl⟩
  go_wp2_with fail
  refine (pre_zero _ false _ (by decide)).mono ?_
  rintro e w' ⟨rfl, rfl⟩
  go_wp2_with fail
  refine (pre_zero _ false _ (by decide)).mono ?_
  rintro e w' ⟨rfl, rfl⟩
  go_wp2_with fail
  refine (pre_zero _ true _ (by decide)).mono ?_
  rintro e w' ⟨rfl, rfl⟩
  go_wp2_with fail
  go_ret
  refine ⟨congrArg (fun b => Ending.returned (.string b)) ?_, rfl⟩
  refine (fun (h : ∀ j : Fin 41, ByteArray.extract _ 0 j.1 = zeros j.1) => h ⟨k, by omega⟩) ?_
  decide +kernel
theorem repeat_any (k : Nat) (W : World) (h20 : k ≤ 40) :
    Calls Tryz.prog 66 #[.string ⟨#[48]⟩, .int .i64 (k : Int)] W fun e w' => e = .returned (.string (zeros k)) ∧ W = w' := by
  match k, h20 with
  | 0, _ =>
    go_enter Tryz.func66, Tryz.ntmps66
    go_wp2_with fail
    go_ret
    exact ⟨rfl, rfl⟩
  | 1, _ =>
    go_enter Tryz.func66, Tryz.ntmps66
    go_wp2_with fail
    go_ret
    exact ⟨rfl, rfl⟩
  | k + 2, h => exact repeat_two (k + 2) W (by omega) h
end Go.Proofs.YtpinnopdimjfjaaGreatDoor
