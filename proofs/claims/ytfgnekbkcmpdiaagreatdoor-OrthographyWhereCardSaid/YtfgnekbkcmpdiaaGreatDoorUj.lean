/- Contracts: Clusters of both sides. -/
import Derived.Test.YtfgnekbkcmpdiaaGreatDoorUf
namespace Go.Proofs.YtfgnekbkcmpdiaaGreatDoor
open Go.RowKit
set_option linter.unusedVariables false
set_option linter.unusedSimpArgs false
set_option maxRecDepth 100000

theorem clu_yes (L : List Snd) {x : Snd} (h : nuc x = true) : cluL (L ++ [x]) = cluL L ++ [[]] := by
  unfold cluL splL
  rw [splS_snoc]
  unfold stepG
  rw [if_pos h]
theorem clu_no (L : List Snd) {x : Snd} {q : Nat} (h : nuc x = false) (hq : (cluL L).length = q + 1) : ∃ u, (cluL L)[q]? = some u ∧ u.length ≤ L.length ∧ cluL (L ++ [x]) = (cluL L).set q (u ++ [x]) := by
  have hl : (splS nuc L).1.length = q := by unfold cluL splL at hq; simpa using hq
  have hm : (splS nuc L).2 ∈ splL nuc L := by unfold splL; simp
  refine ⟨(splS nuc L).2, ?_, spl_size nuc hm, ?_⟩
  · unfold cluL splL; rw [List.getElem?_append_right (by omega), hl, Nat.sub_self]; rfl
  · unfold cluL splL
    rw [splS_snoc]
    unfold stepG
    rw [if_neg (by simp [h]), List.set_append_right _ _ (by omega), hl, Nat.sub_self]
    rfl
theorem clu_start : cluL [] = [[]] := rfl
def CluPost (L : List Snd) (w : World) (e : Ending) (w' : World) : Prop := ∃ A n c vs, e = .returned (.slice A n c) ∧ (cluL L).length = n ∧ vs.length = n ∧ Hp w (srv A n c vs (cluL L) :: srows vs (cluL L)) w'
end Go.Proofs.YtfgnekbkcmpdiaaGreatDoor
