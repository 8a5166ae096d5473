/-
  DERIVED. GIVEN WITH THE SEED: THE CARDS: each row of YtjmndidbhickdaaDoorRows.lean that lists a variable, with what it lists TIED to the program's text (the seventh form; the later family's looks); each row that meets fmt, with fmt's text TOLD by the authors' own Lean function (tested against real Go, not proved from fmt's source: count such statements apart). THE CARD IS WHAT COUNTS. Prove the row's statement (the work); the ties are given (YtjmndidbhickdaaDoorTie.lean); close each card by the builder's one call (the guide's Derived/Test/ToyasCard.lean, 'card_holds'). Laid BY PROGRAM, IN A SANDBOX (cutbox-door.mjs). By AI agents, Wed Nov 11 2026. No macro, syntax, notation, axiom, sorry.
-/
import Derived.Test.YtjmndidbhickdaaDoorRows
import GoSem.ClaimSeven
namespace Go.Proofs.YtjmndidbhickdaaDoor
namespace Rows

/-- THE TIED CARD OF 'ancepslaw02.NaturalDivides'. -/
def naturalDividesCard : Claim7 := { stood := { row := naturalDividesRow, standIns := [], harness := (true, "bf48af1ad9a5ba7188b73a673013d360285f20e1b5d6c90c831bc516b0c12b7d"), looks := false }, kinds := [], alts := [], laidByText := true, laidKinds := [.data, .data, .data], laidTests := true, laidLooks := .later }
def NaturalDividesCardSaid : Prop := Claim7.holds Tryd.pinned (.plain (OpenSpec.ofChange naturalDividesSpec)) naturalDividesCard

/-- THE TIED CARD OF 'ancepslaw02.NaturalRing'. -/
def naturalRingCard : Claim7 := { stood := { row := naturalRingRow, standIns := [], harness := (true, "bf48af1ad9a5ba7188b73a673013d360285f20e1b5d6c90c831bc516b0c12b7d"), looks := false }, kinds := [], alts := [], laidByText := true, laidKinds := [.data, .data, .data], laidTests := true, laidLooks := .later }
def NaturalRingCardSaid : Prop := Claim7.holds Tryd.pinned (.plain (OpenSpec.ofChange naturalRingSpec)) naturalRingCard

/-- THE TIED CARD OF 'ancepslaw02.NaturalGcd'. -/
def naturalGcdCard : Claim7 := { stood := { row := naturalGcdRow, standIns := [], harness := (true, "bf48af1ad9a5ba7188b73a673013d360285f20e1b5d6c90c831bc516b0c12b7d"), looks := false }, kinds := [], alts := [], laidByText := true, laidKinds := [.data, .data, .data], laidTests := true, laidLooks := .later }
def NaturalGcdCardSaid : Prop := Claim7.holds Tryd.pinned (.plain (OpenSpec.ofChange naturalGcdSpec)) naturalGcdCard

/-- THE TIED CARD OF 'ancepslaw02.NaturalBinomial'. -/
def naturalBinomialCard : Claim7 := { stood := { row := naturalBinomialRow, standIns := [], harness := (true, "bf48af1ad9a5ba7188b73a673013d360285f20e1b5d6c90c831bc516b0c12b7d"), looks := false }, kinds := [], alts := [], laidByText := true, laidKinds := [.data, .data, .data], laidTests := true, laidLooks := .later }
def NaturalBinomialCardSaid : Prop := Claim7.holds Tryd.pinned (.plain (OpenSpec.ofChange naturalBinomialSpec)) naturalBinomialCard

/-- THE TIED CARD OF 'ancepslaw03.FractionText'. -/
def fractionTextCard : Claim7 := { stood := { row := fractionTextRow, standIns := [], harness := (true, "bf48af1ad9a5ba7188b73a673013d360285f20e1b5d6c90c831bc516b0c12b7d"), looks := false }, kinds := [], alts := [], laidByText := true, laidKinds := [.data, .data, .data], laidTests := true, laidLooks := .later }
def FractionTextCardSaid : Prop := Claim7.holds Tryd.pinned (.plain (OpenSpec.ofChange fractionTextSpec)) fractionTextCard

/-- THE TIED CARD OF 'ancepslaw03.FractionParse'. -/
def fractionParseCard : Claim7 := { stood := { row := fractionParseRow, standIns := [], harness := (true, "bf48af1ad9a5ba7188b73a673013d360285f20e1b5d6c90c831bc516b0c12b7d"), looks := false }, kinds := [], alts := [], laidByText := true, laidKinds := [.data, .data, .data], laidTests := true, laidLooks := .later }
def FractionParseCardSaid : Prop := Claim7.holds Tryd.pinned (.plain (OpenSpec.ofChange fractionParseSpec)) fractionParseCard

/-- THE SECOND FORM's CARD OF 'ancepslaw02.NaturalDivides'. -/
def naturalDividesUptoCard : Claim7 := { stood := { row := naturalDividesUptoRow, standIns := [], harness := (true, "bf48af1ad9a5ba7188b73a673013d360285f20e1b5d6c90c831bc516b0c12b7d"), looks := false }, kinds := [], alts := [], laidByText := true, laidKinds := [.data, .data, .data], laidTests := true, laidLooks := .later }
def NaturalDividesUptoCardSaid : Prop := Claim7.holds Tryd.pinned (.plain (OpenSpec.upto naturalDividesSpec)) naturalDividesUptoCard

/-- THE SECOND FORM's CARD OF 'ancepslaw02.NaturalRing'. -/
def naturalRingUptoCard : Claim7 := { stood := { row := naturalRingUptoRow, standIns := [], harness := (true, "bf48af1ad9a5ba7188b73a673013d360285f20e1b5d6c90c831bc516b0c12b7d"), looks := false }, kinds := [], alts := [], laidByText := true, laidKinds := [.data, .data, .data], laidTests := true, laidLooks := .later }
def NaturalRingUptoCardSaid : Prop := Claim7.holds Tryd.pinned (.plain (OpenSpec.upto naturalRingSpec)) naturalRingUptoCard

/-- THE SECOND FORM's CARD OF 'ancepslaw02.NaturalGcd'. -/
def naturalGcdUptoCard : Claim7 := { stood := { row := naturalGcdUptoRow, standIns := [], harness := (true, "bf48af1ad9a5ba7188b73a673013d360285f20e1b5d6c90c831bc516b0c12b7d"), looks := false }, kinds := [], alts := [], laidByText := true, laidKinds := [.data, .data, .data], laidTests := true, laidLooks := .later }
def NaturalGcdUptoCardSaid : Prop := Claim7.holds Tryd.pinned (.plain (OpenSpec.upto naturalGcdSpec)) naturalGcdUptoCard

/-- THE SECOND FORM's CARD OF 'ancepslaw02.NaturalBinomial'. -/
def naturalBinomialUptoCard : Claim7 := { stood := { row := naturalBinomialUptoRow, standIns := [], harness := (true, "bf48af1ad9a5ba7188b73a673013d360285f20e1b5d6c90c831bc516b0c12b7d"), looks := false }, kinds := [], alts := [], laidByText := true, laidKinds := [.data, .data, .data], laidTests := true, laidLooks := .later }
def NaturalBinomialUptoCardSaid : Prop := Claim7.holds Tryd.pinned (.plain (OpenSpec.upto naturalBinomialSpec)) naturalBinomialUptoCard

/-- THE SECOND FORM's CARD OF 'ancepslaw03.FractionText'. -/
def fractionTextUptoCard : Claim7 := { stood := { row := fractionTextUptoRow, standIns := [], harness := (true, "bf48af1ad9a5ba7188b73a673013d360285f20e1b5d6c90c831bc516b0c12b7d"), looks := false }, kinds := [], alts := [], laidByText := true, laidKinds := [.data, .data, .data], laidTests := true, laidLooks := .later }
def FractionTextUptoCardSaid : Prop := Claim7.holds Tryd.pinned (.plain (OpenSpec.upto fractionTextSpec)) fractionTextUptoCard

/-- THE SECOND FORM's CARD OF 'ancepslaw03.FractionParse'. -/
def fractionParseUptoCard : Claim7 := { stood := { row := fractionParseUptoRow, standIns := [], harness := (true, "bf48af1ad9a5ba7188b73a673013d360285f20e1b5d6c90c831bc516b0c12b7d"), looks := false }, kinds := [], alts := [], laidByText := true, laidKinds := [.data, .data, .data], laidTests := true, laidLooks := .later }
def FractionParseUptoCardSaid : Prop := Claim7.holds Tryd.pinned (.plain (OpenSpec.upto fractionParseSpec)) fractionParseUptoCard
end Rows
end Go.Proofs.YtjmndidbhickdaaDoor
