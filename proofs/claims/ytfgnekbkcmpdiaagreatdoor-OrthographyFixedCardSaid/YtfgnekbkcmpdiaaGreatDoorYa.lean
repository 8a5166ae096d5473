/- Contract of the program: Format. -/
import Derived.Test.YtfgnekbkcmpdiaaGreatDoorOz
namespace Go.Proofs.YtfgnekbkcmpdiaaGreatDoor
open Go.RowKit
set_option linter.unusedVariables false
set_option linter.unusedSimpArgs false
set_option maxRecDepth 100000

theorem join_four (a b c d : List UInt8) : Lib.join ([bs a, bs b, bs c, bs d].map (·.data.toList)) (⟨#[32]⟩ : ByteArray).data.toList = a ++ 32 :: (b ++ 32 :: (c ++ 32 :: d)) := by
  simp [Lib.join, List.intercalate, bs_list]
theorem txO_snoc (nm : List UInt8) (L : List Sg) (x : Sg) : txO nm (L ++ [x]) = txO nm L ++ (lnS x ++ [10]) := by unfold txO; rw [lnsO_snoc]; simp
theorem txO_nil (nm : List UInt8) : txO nm [] = (hdO ++ nm) ++ [10] := rfl
theorem txO_take_len {nm : List UInt8} {L : List Sg} (h : (vO nm L).2 = 0) (k : Nat) : (txO nm (L.take k)).length ≤ 5100 := by
  have h1 := txO_len h
  have e : L = L.take k ++ L.drop k := (List.take_append_drop _ _).symm
  have h2 : (txO nm (L.take k)).length ≤ (txO nm L).length := by
    conv => rhs; rw [e]
    unfold txO lnsO
    rw [List.flatMap_append]
    simp only [List.length_append, List.length_cons]; omega
  omega
/-- What Format answers. -/
def FoPost (nm : List UInt8) (L : List Sg) (w : World) (e : Ending) (w' : World) : Prop := e = .returned (.tuple #[.string (bs (fmtO nm L).1), .int .i64 (fmtO nm L).2]) ∧ Below w.heap.size w w'
end Go.Proofs.YtfgnekbkcmpdiaaGreatDoor
