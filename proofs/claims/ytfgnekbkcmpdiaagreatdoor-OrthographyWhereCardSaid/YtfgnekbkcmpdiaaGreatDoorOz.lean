/- Contracts: digits, the word of a place in the reference. -/
import Derived.Test.YtfgnekbkcmpdiaaGreatDoorOi
import Derived.Test.YtfgnekbkcmpdiaaGreatDoorUr
import Derived.Test.YtfgnekbkcmpdiaaGreatDoorUs
namespace Go.Proofs.YtfgnekbkcmpdiaaGreatDoor
open Go.RowKit
set_option linter.unusedVariables false
set_option linter.unusedSimpArgs false
set_option maxRecDepth 100000

theorem dec_dg (i : Nat) (h : i < 100) : (⟨(Lib.decDigits i).toArray⟩ : ByteArray) = bs (dg2 (i : Int)) := by
  have hone : ∀ q : Nat, q < 10 → Lib.decDigits q = [UInt8.ofNat (48 + q)] := fun q hq => by rw [Lib.decDigits, dif_pos hq]
  have key : Lib.decDigits i = dg2 (i : Int) := by
    by_cases h1 : i < 10
    · rw [hone i h1]
      unfold dg2
      rw [if_pos (by omega), show (48 + (i : Int)).toNat = 48 + i by omega]; try rfl
    · rw [Lib.decDigits, dif_neg h1, hone (i / 10) (by omega)]
      unfold dg2
      rw [if_neg (by omega), show (48 + (i : Int) / 10).toNat = 48 + i / 10 by omega, show (48 + (i : Int) % 10).toNat = 48 + i % 10 by omega]; try rfl
  rw [key]; rfl
theorem dg_two {q r : Nat} (hq : 1 ≤ q) (hq9 : q ≤ 9) (hr : r ≤ 9) : dg2 ((q * 10 + r : Nat) : Int) = dg2 (q : Int) ++ dg2 (r : Int) := by
  unfold dg2
  rw [if_neg (by omega), if_pos (by omega), if_pos (by omega), show (48 + ((q * 10 + r : Nat) : Int) / 10) = 48 + (q : Int) by omega, show (48 + ((q * 10 + r : Nat) : Int) % 10) = 48 + (r : Int) by omega]; try rfl
set_option maxHeartbeats 2000000 in
theorem rwhere_any (n : Int) (w : World) (h : 0 ≤ n ∧ n ≤ 4) : Calls Tryz.prog 48 #[.int .i64 n] w fun e w' => e = .returned (.string (bs (wW n))) ∧ Below w.heap.size w w' := by
  rcases ww_cases h with rfl | rfl | rfl | rfl | rfl
  all_goals
    go_enter Tryz.func48, Tryz.ntmps48
    go_wp2_with fail
    go_ret
    exact ⟨rfl, bnew _ _⟩
end Go.Proofs.YtfgnekbkcmpdiaaGreatDoor
