/-
  DERIVED. GIVEN WITH THE SEED: THE CARDS: each row of YtielpkpalfnfgaaDoorRows.lean that lists a variable, with what it lists TIED to the program's text (the seventh form; the later family's looks); each row that meets fmt, with fmt's text TOLD by the authors' own Lean function (tested against real Go, not proved from fmt's source: count such statements apart). THE CARD IS WHAT COUNTS. Prove the row's statement (the work); the ties are given (YtielpkpalfnfgaaDoorTie.lean); close each card by the builder's one call (the guide's Derived/Test/ToyasCard.lean, 'card_holds'). Laid BY PROGRAM, IN A SANDBOX (cutbox-door.mjs). By AI agents, Wed Nov 11 2026. No macro, syntax, notation, axiom, sorry.
-/
import Derived.Test.YtielpkpalfnfgaaDoorRows
import GoSem.ClaimSeven
namespace Go.Proofs.YtielpkpalfnfgaaDoor
namespace Rows

/-- THE TIED CARD OF 'ancepslaw03.FractionText'. -/
def fractionTextCard : Claim7 := { stood := { row := fractionTextRow, standIns := [], harness := (true, "1ded36a3030830b45729fcc5aca6dd047a148834e4c5457553757e8e888fe988"), looks := false }, kinds := [], alts := [], laidByText := true, laidKinds := [.data, .data, .data], laidTests := true, laidLooks := .later }
def FractionTextCardSaid : Prop := Claim7.holds Tryd.pinned (.plain (OpenSpec.ofChange fractionTextSpec)) fractionTextCard

/-- THE TIED CARD OF 'ancepslaw03.FractionParse'. -/
def fractionParseCard : Claim7 := { stood := { row := fractionParseRow, standIns := [], harness := (true, "1ded36a3030830b45729fcc5aca6dd047a148834e4c5457553757e8e888fe988"), looks := false }, kinds := [], alts := [], laidByText := true, laidKinds := [.data, .data, .data], laidTests := true, laidLooks := .later }
def FractionParseCardSaid : Prop := Claim7.holds Tryd.pinned (.plain (OpenSpec.ofChange fractionParseSpec)) fractionParseCard

/-- THE SECOND FORM's CARD OF 'ancepslaw03.FractionText'. -/
def fractionTextUptoCard : Claim7 := { stood := { row := fractionTextUptoRow, standIns := [], harness := (true, "1ded36a3030830b45729fcc5aca6dd047a148834e4c5457553757e8e888fe988"), looks := false }, kinds := [], alts := [], laidByText := true, laidKinds := [.data, .data, .data], laidTests := true, laidLooks := .later }
def FractionTextUptoCardSaid : Prop := Claim7.holds Tryd.pinned (.plain (OpenSpec.upto fractionTextSpec)) fractionTextUptoCard

/-- THE SECOND FORM's CARD OF 'ancepslaw03.FractionParse'. -/
def fractionParseUptoCard : Claim7 := { stood := { row := fractionParseUptoRow, standIns := [], harness := (true, "1ded36a3030830b45729fcc5aca6dd047a148834e4c5457553757e8e888fe988"), looks := false }, kinds := [], alts := [], laidByText := true, laidKinds := [.data, .data, .data], laidTests := true, laidLooks := .later }
def FractionParseUptoCardSaid : Prop := Claim7.holds Tryd.pinned (.plain (OpenSpec.upto fractionParseSpec)) fractionParseUptoCard
end Rows
end Go.Proofs.YtielpkpalfnfgaaDoor
