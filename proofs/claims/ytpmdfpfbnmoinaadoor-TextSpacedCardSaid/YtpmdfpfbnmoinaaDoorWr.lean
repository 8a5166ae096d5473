/- Contract of the reference's letters. -/
import Derived.Test.YtpmdfpfbnmoinaaDoorWa
namespace Go.Proofs.YtpmdfpfbnmoinaaDoor
open Go.RowKit
set_option linter.unusedVariables false

set_option maxHeartbeats 1000000 in
theorem rletter_any (n : Int) (w : World) (h0 : 0 ≤ n) (h1 : n ≤ 255) :
    Calls Tryd.prog 16 #[.int .u8 n] w fun e w' => e = .returned (.bool (ltr n)) ∧ w = w' := by
  by_cases h2 : n < 32
  · have HL := Lib.hid (show ltr n = false by simp [ltr]; omega)
    go_enter Tryd.func16, Tryd.ntmps16
    go_wp2
    go_ret
    exact ⟨ret_bool HL.out.symm, rfl⟩
  · by_cases h3 : 126 < n
    · have HL := Lib.hid (show ltr n = false by simp [ltr]; omega)
      go_enter Tryd.func16, Tryd.ntmps16
      go_wp2
      go_ret
      exact ⟨ret_bool HL.out.symm, rfl⟩
    · have h4 : 32 ≤ n := by omega
      have h5 : n ≤ 126 := by omega
      go_enter Tryd.func16, Tryd.ntmps16
      go_wp2
      go_loop [3] (fun i => ∃ k : Nat, k ≤ 15 ∧ i = .int .i64 k ∧ ∀ j, j < k → punL[j]? ≠ some n) (fun i => 15 - (intOf i).toNat)
      case atStart => exact ⟨0, Nat.zero_le _, rfl, fun j hj => by omega⟩
      case round =>
        obtain ⟨k, hk, rfl, hall⟩ := hrel
        have HA := Lib.hid hall
        clear hall
        by_cases hlt : k < 15
        · have HP := Lib.hid (pun_at k hlt)
          go_wp2
          · have ht : ((((⟨#[32, 46, 44, 59, 58, 33, 63, 34, 45, 91, 93, 60, 62, 123, 125]⟩ : ByteArray)[k]'(by exact hlt)).toNat : Int) == n) = true := by assumption
            have HE := Lib.hid (show ltr n = false from ltr_hit (k := k) (by rw [HP.out (by exact hlt)]; simpa using ht))
            go_ret
            exact ⟨ret_bool HE.out.symm, rfl⟩
          · have ht : ((((⟨#[32, 46, 44, 59, 58, 33, 63, 34, 45, 91, 93, 60, 62, 123, 125]⟩ : ByteArray)[k]'(by exact hlt)).toNat : Int) == n) = false := by assumption
            go_round
            case rel => exact ⟨k + 1, by omega, by go_num, fun j hj => by
              by_cases e : j = k
              · subst e; rw [HP.out (by exact hlt)]; simpa using ht
              · exact HA.out j (by omega)⟩
            case measure => simp [intOf]; omega
        · have HE := Lib.hid (show ltr n = true from ltr_miss h4 h5 (fun j hj => HA.out j (by omega)))
          go_wp2
          go_ret
          exact ⟨ret_bool HE.out.symm, rfl⟩
end Go.Proofs.YtpmdfpfbnmoinaaDoor
