/-
  DERIVED. GIVEN WITH THE SEED: THE CARDS: each row of YtfgnekbkcmpdiaaGreatDoorRows.lean that lists a variable, with what it lists TIED to the program's text (the seventh form; the later family's looks); each row that meets fmt, with fmt's text TOLD by the authors' own Lean function (tested against real Go, not proved from fmt's source: count such statements apart). THE CARD IS WHAT COUNTS. Prove the row's statement (the work); the ties are given (YtfgnekbkcmpdiaaGreatDoorTie.lean); close each card by the builder's one call (the guide's Derived/Test/ToyasCard.lean, 'card_holds'). Laid BY PROGRAM, IN A SANDBOX (cutbox-door.mjs). By AI agents, Wed Nov 11 2026. No macro, syntax, notation, axiom, sorry.
-/
import Derived.Test.YtfgnekbkcmpdiaaGreatDoorRows
import GoSem.ClaimSeven
namespace Go.Proofs.YtfgnekbkcmpdiaaGreatDoor
namespace Rows

/-- THE TIED CARD OF 'ancepslaw12.OrthographyFixed'. -/
def orthographyFixedCard : Claim7 := { stood := { row := orthographyFixedRow, standIns := [], harness := (true, "0760a131895676e90c114a9970ba97c66a07a23fb592748abf46d06f983308af"), looks := true }, kinds := [], alts := [], laidByText := true, laidKinds := [.data, .data, .data, .data, .sentinel, .sentinel, .pinned], laidTests := true, laidLooks := .later }
def OrthographyFixedCardSaid : Prop := Claim7.holds Tryz.pinned (.plain (OpenSpec.ofChange orthographyFixedSpec)) orthographyFixedCard

/-- THE TIED CARD OF 'ancepslaw12.OrthographyWhere'. -/
def orthographyWhereCard : Claim7 := { stood := { row := orthographyWhereRow, standIns := [], harness := (true, "0760a131895676e90c114a9970ba97c66a07a23fb592748abf46d06f983308af"), looks := true }, kinds := [], alts := [], laidByText := true, laidKinds := [.data, .data, .data, .data, .sentinel, .sentinel, .pinned], laidTests := true, laidLooks := .later }
def OrthographyWhereCardSaid : Prop := Claim7.holds Tryz.pinned (.plain (OpenSpec.ofChange orthographyWhereSpec)) orthographyWhereCard

/-- THE TIED CARD OF 'ancepslaw12.OrthographyMore'. -/
def orthographyMoreCard : Claim7 := { stood := { row := orthographyMoreRow, standIns := [], harness := (true, "0760a131895676e90c114a9970ba97c66a07a23fb592748abf46d06f983308af"), looks := true }, kinds := [], alts := [], laidByText := true, laidKinds := [.data, .data, .data, .data, .sentinel, .sentinel, .pinned], laidTests := true, laidLooks := .later }
def OrthographyMoreCardSaid : Prop := Claim7.holds Tryz.pinned (.plain (OpenSpec.ofChange orthographyMoreSpec)) orthographyMoreCard

/-- THE SECOND FORM's CARD OF 'ancepslaw12.OrthographyFixed'. -/
def orthographyFixedUptoCard : Claim7 := { stood := { row := orthographyFixedUptoRow, standIns := [], harness := (true, "0760a131895676e90c114a9970ba97c66a07a23fb592748abf46d06f983308af"), looks := true }, kinds := [], alts := [], laidByText := true, laidKinds := [.data, .data, .data, .data, .sentinel, .sentinel, .pinned], laidTests := true, laidLooks := .later }
def OrthographyFixedUptoCardSaid : Prop := Claim7.holds Tryz.pinned (.plain (OpenSpec.upto orthographyFixedSpec)) orthographyFixedUptoCard

/-- THE SECOND FORM's CARD OF 'ancepslaw12.OrthographyWhere'. -/
def orthographyWhereUptoCard : Claim7 := { stood := { row := orthographyWhereUptoRow, standIns := [], harness := (true, "0760a131895676e90c114a9970ba97c66a07a23fb592748abf46d06f983308af"), looks := true }, kinds := [], alts := [], laidByText := true, laidKinds := [.data, .data, .data, .data, .sentinel, .sentinel, .pinned], laidTests := true, laidLooks := .later }
def OrthographyWhereUptoCardSaid : Prop := Claim7.holds Tryz.pinned (.plain (OpenSpec.upto orthographyWhereSpec)) orthographyWhereUptoCard

/-- THE SECOND FORM's CARD OF 'ancepslaw12.OrthographyMore'. -/
def orthographyMoreUptoCard : Claim7 := { stood := { row := orthographyMoreUptoRow, standIns := [], harness := (true, "0760a131895676e90c114a9970ba97c66a07a23fb592748abf46d06f983308af"), looks := true }, kinds := [], alts := [], laidByText := true, laidKinds := [.data, .data, .data, .data, .sentinel, .sentinel, .pinned], laidTests := true, laidLooks := .later }
def OrthographyMoreUptoCardSaid : Prop := Claim7.holds Tryz.pinned (.plain (OpenSpec.upto orthographyMoreSpec)) orthographyMoreUptoCard
end Rows
end Go.Proofs.YtfgnekbkcmpdiaaGreatDoor
