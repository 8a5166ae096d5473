/-
  DERIVED. GIVEN WITH THE SEED: THE CARDS: each row of YtkfkefgkepoaaaaGreatDoorRows.lean that lists a variable, with what it lists TIED to the program's text (the seventh form; the later family's looks); each row that meets fmt, with fmt's text TOLD by the authors' own Lean function (tested against real Go, not proved from fmt's source: count such statements apart). THE CARD IS WHAT COUNTS. Prove the row's statement (the work); the ties are given (YtkfkefgkepoaaaaGreatDoorTie.lean); close each card by the builder's one call (the guide's Derived/Test/ToyasCard.lean, 'card_holds'). Laid BY PROGRAM, IN A SANDBOX (cutbox-door.mjs). By AI agents, Wed Nov 11 2026. No macro, syntax, notation, axiom, sorry.
-/
import Derived.Test.YtkfkefgkepoaaaaGreatDoorRows
import GoSem.ClaimSeven
namespace Go.Proofs.YtkfkefgkepoaaaaGreatDoor
namespace Rows

/-- THE TIED CARD OF 'ancepslaw03.FractionSum'. -/
def fractionSumCard : Claim7 := { stood := { row := fractionSumRow, standIns := [], harness := (true, "cf4a761dd0ca4fe58d3416b20aedeccbab87a90bf521e64f17eb98787bbb4ee3"), looks := false }, kinds := [], alts := [], laidByText := true, laidKinds := [.data, .data, .data], laidTests := true, laidLooks := .later }
def FractionSumCardSaid : Prop := Claim7.holds Tryz.pinned (.plain (OpenSpec.ofChange fractionSumSpec)) fractionSumCard

/-- THE SECOND FORM's CARD OF 'ancepslaw03.FractionSum'. -/
def fractionSumUptoCard : Claim7 := { stood := { row := fractionSumUptoRow, standIns := [], harness := (true, "cf4a761dd0ca4fe58d3416b20aedeccbab87a90bf521e64f17eb98787bbb4ee3"), looks := false }, kinds := [], alts := [], laidByText := true, laidKinds := [.data, .data, .data], laidTests := true, laidLooks := .later }
def FractionSumUptoCardSaid : Prop := Claim7.holds Tryz.pinned (.plain (OpenSpec.upto fractionSumSpec)) fractionSumUptoCard
end Rows
end Go.Proofs.YtkfkefgkepoaaaaGreatDoor
