/- Contracts: Text and Format of the reference. -/
import Derived.Test.YtfgnekbkcmpdiaaGreatDoorUe
import Derived.Test.YtfgnekbkcmpdiaaGreatDoorUr
namespace Go.Proofs.YtfgnekbkcmpdiaaGreatDoor
open Go.RowKit
set_option linter.unusedVariables false
set_option linter.unusedSimpArgs false
set_option maxRecDepth 100000

theorem letters_any (w : World) : Calls Tryz.prog 58 #[] w fun e w' => e = .returned (.string (⟨#[32, 118, 100, 109, 108, 110, 115, 120, 103, 98]⟩ : ByteArray)) ∧ w = w' := by
  go_enter Tryz.func58, Tryz.ntmps58
  go_wp2
  go_ret
  exact ⟨rfl, rfl⟩
theorem ltr_ext {k : Int} (h : 1 ≤ k ∧ k ≤ 9) : ((⟨#[32, 118, 100, 109, 108, 110, 115, 120, 103, 98]⟩ : ByteArray).extract k.toNat (k + 1).toNat).data.toList = [ltrK k] := by
  rcases kinds h with rfl | rfl | rfl | rfl | rfl | rfl | rfl | rfl | rfl <;> decide
theorem dig_ext {q : Int} (h : 1 ≤ q ∧ q ≤ 3) : ((⟨#[48, 49, 50, 51]⟩ : ByteArray).extract q.toNat (q + 1).toNat).data.toList = [(48 + q).toNat.toUInt8] := by
  rcases qs h with rfl | rfl | rfl <;> decide
theorem txL_none : txL [] = [] := rfl
theorem tx_end {L : List Snd} {k : Nat} {x : Snd} {u o2 q : List UInt8} (hx : L[k]? = some x) (hu : u = o2 ++ (x.t ++ [47, ltrK x.k])) (h2 : o2 = if k = 0 then [] else txL (L.take k) ++ [32]) (hq : q = if nuc x then [(48 + x.q).toNat.toUInt8] else []) : u ++ q = txL (L.take (k + 1)) := by
  by_cases h0 : k = 0
  · subst h0
    rw [if_pos rfl] at h2
    rw [txL_first hx, hu, h2, hq]
    unfold tx1
    simp
  · rw [if_neg h0] at h2
    rw [txL_take hx (by omega), hu, h2, hq]
    unfold tx1
    simp
theorem txL_size {L : List Snd} (h1 : ∀ x ∈ L, vS x = 0) (k : Nat) : (txL (L.take k)).length ≤ k * 12 := by
  have h := txL_len (L := L.take k) (fun x hx => h1 x (List.mem_of_mem_take hx))
  have h2 : (L.take k).length ≤ k := by rw [List.length_take]; omega
  have := Nat.mul_le_mul_right 12 h2
  omega
end Go.Proofs.YtfgnekbkcmpdiaaGreatDoor
