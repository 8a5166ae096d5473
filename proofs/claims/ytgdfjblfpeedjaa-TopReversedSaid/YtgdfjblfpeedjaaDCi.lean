/- Contracts of the program: which arcs belong to a way. -/
import Derived.Test.YtgdfjblfpeedjaaDCg
import Derived.Test.YtgdfjblfpeedjaaShelf
import Derived.Lib.OwnBridge
namespace Go.Proofs.Ytgdfjblfpeedjaa
open Go.RowKit
set_option linter.unusedVariables false
set_option linter.unusedSimpArgs false
set_option maxRecDepth 100000

open Go.Shelf
theorem grown_putRow {α : Type} [Inhabited α] {enc : α → Value} {w : World} {g q : Nat} {d : Array α} : w.grownBy (Go.Sort.putRow enc (Go.Sort.ahead w q) g 0 d) (some g) :=
  ⟨rfl, rfl, rfl, by simp [Go.Sort.putRow, Go.Sort.mapBlock, Go.Sort.ahead], fun k hk hne => by
    have hne' : g ≠ k := fun e => hne (by rw [e])
    simp [Go.Sort.putRow, Go.Sort.mapBlock, Go.Sort.ahead, Array.getElem?_modify, hne']⟩
/-- A row is written anew, perhaps shorter. -/
theorem Hp.row_upd {W w w' : World} {pre : List Itm} {vs : List (Option Addr × Nat)} {rows : List (List Int)} {q b c : Nat} {row row' : List Int} (h : Hp W (pre ++ rowsG vs rows) w) (hv : vs[q]? = some (some ⟨b, 0, none⟩, c)) (hr : rows[q]? = some row)
    (hg : w.grownBy w' (some b)) (ho : w'.ownsRow W.heap.size 3 1 (.slice (some ⟨b, 0, none⟩) row'.length c) row'.length (ints row')) : Hp W (pre ++ rowsG (vs.set q (some ⟨b, 0, none⟩, c)) (rows.set q row')) w' := by
  have hi : (pre ++ rowsG vs rows)[pre.length + q]? = some (nums (some ⟨b, 0, none⟩) row.length c row) := by
    rw [List.getElem?_append_right (by omega), Nat.add_sub_cancel_left]; exact rowsG_get hv hr
  have h2 := h.upd hi (nums (some ⟨b, 0, none⟩) row'.length c row') hg ho (fun k hk => .inl hk)
  rw [List.set_append_right _ _ (by omega), Nat.add_sub_cancel_left, rowsG_set] at h2
  exact h2
end Go.Proofs.Ytgdfjblfpeedjaa
