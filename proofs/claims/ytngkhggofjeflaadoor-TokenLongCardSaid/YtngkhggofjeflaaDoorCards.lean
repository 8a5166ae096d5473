/-
  DERIVED. GIVEN WITH THE SEED: THE CARDS: each row of YtngkhggofjeflaaDoorRows.lean that lists a variable, with what it lists TIED to the program's text (the seventh form; the later family's looks); each row that meets fmt, with fmt's text TOLD by the authors' own Lean function (tested against real Go, not proved from fmt's source: count such statements apart). THE CARD IS WHAT COUNTS. Prove the row's statement (the work); the ties are given (YtngkhggofjeflaaDoorTie.lean); close each card by the builder's one call (the guide's Derived/Test/ToyasCard.lean, 'card_holds'). Laid BY PROGRAM, IN A SANDBOX (cutbox-door.mjs). By AI agents, Wed Nov 11 2026. No macro, syntax, notation, axiom, sorry.
-/
import Derived.Test.YtngkhggofjeflaaDoorRows
import GoSem.ClaimSeven
namespace Go.Proofs.YtngkhggofjeflaaDoor
namespace Rows

/-- THE TIED CARD OF 'ancepslaw05.TokenTokens'. -/
def tokenTokensCard : Claim7 := { stood := { row := tokenTokensRow, standIns := [], harness := (true, "16a659aa95795867c575aa6eaac6841fc8a6e47d9c26b886f8e2e6fbd62207cd"), looks := true }, kinds := [], alts := [], laidByText := true, laidKinds := [.data, .data, .data, .sentinel, .sentinel], laidTests := true, laidLooks := .later }
def TokenTokensCardSaid : Prop := Claim7.holds Tryd.pinned (.plain (OpenSpec.ofChange tokenTokensSpec)) tokenTokensCard

/-- THE TIED CARD OF 'ancepslaw05.TokenWrite'. -/
def tokenWriteCard : Claim7 := { stood := { row := tokenWriteRow, standIns := [], harness := (true, "16a659aa95795867c575aa6eaac6841fc8a6e47d9c26b886f8e2e6fbd62207cd"), looks := true }, kinds := [], alts := [], laidByText := true, laidKinds := [.data, .data, .data, .sentinel, .sentinel], laidTests := true, laidLooks := .later }
def TokenWriteCardSaid : Prop := Claim7.holds Tryd.pinned (.plain (OpenSpec.ofChange tokenWriteSpec)) tokenWriteCard

/-- THE TIED CARD OF 'ancepslaw05.TokenAgain'. -/
def tokenAgainCard : Claim7 := { stood := { row := tokenAgainRow, standIns := [], harness := (true, "16a659aa95795867c575aa6eaac6841fc8a6e47d9c26b886f8e2e6fbd62207cd"), looks := true }, kinds := [], alts := [], laidByText := true, laidKinds := [.data, .data, .data, .sentinel, .sentinel], laidTests := true, laidLooks := .later }
def TokenAgainCardSaid : Prop := Claim7.holds Tryd.pinned (.plain (OpenSpec.ofChange tokenAgainSpec)) tokenAgainCard

/-- THE TIED CARD OF 'ancepslaw05.TokenSpaced'. -/
def tokenSpacedCard : Claim7 := { stood := { row := tokenSpacedRow, standIns := [], harness := (true, "16a659aa95795867c575aa6eaac6841fc8a6e47d9c26b886f8e2e6fbd62207cd"), looks := true }, kinds := [], alts := [], laidByText := true, laidKinds := [.data, .data, .data, .sentinel, .sentinel], laidTests := true, laidLooks := .later }
def TokenSpacedCardSaid : Prop := Claim7.holds Tryd.pinned (.plain (OpenSpec.ofChange tokenSpacedSpec)) tokenSpacedCard

/-- THE TIED CARD OF 'ancepslaw05.TokenNames'. -/
def tokenNamesCard : Claim7 := { stood := { row := tokenNamesRow, standIns := [], harness := (true, "16a659aa95795867c575aa6eaac6841fc8a6e47d9c26b886f8e2e6fbd62207cd"), looks := true }, kinds := [], alts := [], laidByText := true, laidKinds := [.data, .data, .data, .sentinel, .sentinel], laidTests := true, laidLooks := .later }
def TokenNamesCardSaid : Prop := Claim7.holds Tryd.pinned (.plain (OpenSpec.ofChange tokenNamesSpec)) tokenNamesCard

/-- THE TIED CARD OF 'ancepslaw05.TokenQuote'. -/
def tokenQuoteCard : Claim7 := { stood := { row := tokenQuoteRow, standIns := [], harness := (true, "16a659aa95795867c575aa6eaac6841fc8a6e47d9c26b886f8e2e6fbd62207cd"), looks := true }, kinds := [], alts := [], laidByText := true, laidKinds := [.data, .data, .data, .sentinel, .sentinel], laidTests := true, laidLooks := .later }
def TokenQuoteCardSaid : Prop := Claim7.holds Tryd.pinned (.plain (OpenSpec.ofChange tokenQuoteSpec)) tokenQuoteCard

/-- THE TIED CARD OF 'ancepslaw05.TokenLines'. -/
def tokenLinesCard : Claim7 := { stood := { row := tokenLinesRow, standIns := [], harness := (true, "16a659aa95795867c575aa6eaac6841fc8a6e47d9c26b886f8e2e6fbd62207cd"), looks := true }, kinds := [], alts := [], laidByText := true, laidKinds := [.data, .data, .data, .data, .sentinel, .sentinel, .pinned], laidTests := true, laidLooks := .later }
def TokenLinesCardSaid : Prop := Claim7.holds Tryd.pinned (.plain (OpenSpec.ofChange tokenLinesSpec)) tokenLinesCard

/-- THE TIED CARD OF 'ancepslaw05.TokenSame'. -/
def tokenSameCard : Claim7 := { stood := { row := tokenSameRow, standIns := [], harness := (true, "16a659aa95795867c575aa6eaac6841fc8a6e47d9c26b886f8e2e6fbd62207cd"), looks := true }, kinds := [], alts := [], laidByText := true, laidKinds := [.data, .data, .data, .sentinel, .sentinel], laidTests := true, laidLooks := .later }
def TokenSameCardSaid : Prop := Claim7.holds Tryd.pinned (.plain (OpenSpec.ofChange tokenSameSpec)) tokenSameCard

/-- THE TIED CARD OF 'ancepslaw05.TokenLong'. -/
def tokenLongCard : Claim7 := { stood := { row := tokenLongRow, standIns := [], harness := (true, "16a659aa95795867c575aa6eaac6841fc8a6e47d9c26b886f8e2e6fbd62207cd"), looks := true }, kinds := [], alts := [], laidByText := true, laidKinds := [.data, .data, .data, .sentinel, .sentinel], laidTests := true, laidLooks := .later }
def TokenLongCardSaid : Prop := Claim7.holds Tryd.pinned (.plain (OpenSpec.ofChange tokenLongSpec)) tokenLongCard

/-- THE SECOND FORM's CARD OF 'ancepslaw05.TokenTokens'. -/
def tokenTokensUptoCard : Claim7 := { stood := { row := tokenTokensUptoRow, standIns := [], harness := (true, "16a659aa95795867c575aa6eaac6841fc8a6e47d9c26b886f8e2e6fbd62207cd"), looks := true }, kinds := [], alts := [], laidByText := true, laidKinds := [.data, .data, .data, .sentinel, .sentinel], laidTests := true, laidLooks := .later }
def TokenTokensUptoCardSaid : Prop := Claim7.holds Tryd.pinned (.plain (OpenSpec.upto tokenTokensSpec)) tokenTokensUptoCard

/-- THE SECOND FORM's CARD OF 'ancepslaw05.TokenWrite'. -/
def tokenWriteUptoCard : Claim7 := { stood := { row := tokenWriteUptoRow, standIns := [], harness := (true, "16a659aa95795867c575aa6eaac6841fc8a6e47d9c26b886f8e2e6fbd62207cd"), looks := true }, kinds := [], alts := [], laidByText := true, laidKinds := [.data, .data, .data, .sentinel, .sentinel], laidTests := true, laidLooks := .later }
def TokenWriteUptoCardSaid : Prop := Claim7.holds Tryd.pinned (.plain (OpenSpec.upto tokenWriteSpec)) tokenWriteUptoCard

/-- THE SECOND FORM's CARD OF 'ancepslaw05.TokenAgain'. -/
def tokenAgainUptoCard : Claim7 := { stood := { row := tokenAgainUptoRow, standIns := [], harness := (true, "16a659aa95795867c575aa6eaac6841fc8a6e47d9c26b886f8e2e6fbd62207cd"), looks := true }, kinds := [], alts := [], laidByText := true, laidKinds := [.data, .data, .data, .sentinel, .sentinel], laidTests := true, laidLooks := .later }
def TokenAgainUptoCardSaid : Prop := Claim7.holds Tryd.pinned (.plain (OpenSpec.upto tokenAgainSpec)) tokenAgainUptoCard

/-- THE SECOND FORM's CARD OF 'ancepslaw05.TokenSpaced'. -/
def tokenSpacedUptoCard : Claim7 := { stood := { row := tokenSpacedUptoRow, standIns := [], harness := (true, "16a659aa95795867c575aa6eaac6841fc8a6e47d9c26b886f8e2e6fbd62207cd"), looks := true }, kinds := [], alts := [], laidByText := true, laidKinds := [.data, .data, .data, .sentinel, .sentinel], laidTests := true, laidLooks := .later }
def TokenSpacedUptoCardSaid : Prop := Claim7.holds Tryd.pinned (.plain (OpenSpec.upto tokenSpacedSpec)) tokenSpacedUptoCard

/-- THE SECOND FORM's CARD OF 'ancepslaw05.TokenNames'. -/
def tokenNamesUptoCard : Claim7 := { stood := { row := tokenNamesUptoRow, standIns := [], harness := (true, "16a659aa95795867c575aa6eaac6841fc8a6e47d9c26b886f8e2e6fbd62207cd"), looks := true }, kinds := [], alts := [], laidByText := true, laidKinds := [.data, .data, .data, .sentinel, .sentinel], laidTests := true, laidLooks := .later }
def TokenNamesUptoCardSaid : Prop := Claim7.holds Tryd.pinned (.plain (OpenSpec.upto tokenNamesSpec)) tokenNamesUptoCard

/-- THE SECOND FORM's CARD OF 'ancepslaw05.TokenQuote'. -/
def tokenQuoteUptoCard : Claim7 := { stood := { row := tokenQuoteUptoRow, standIns := [], harness := (true, "16a659aa95795867c575aa6eaac6841fc8a6e47d9c26b886f8e2e6fbd62207cd"), looks := true }, kinds := [], alts := [], laidByText := true, laidKinds := [.data, .data, .data, .sentinel, .sentinel], laidTests := true, laidLooks := .later }
def TokenQuoteUptoCardSaid : Prop := Claim7.holds Tryd.pinned (.plain (OpenSpec.upto tokenQuoteSpec)) tokenQuoteUptoCard

/-- THE SECOND FORM's CARD OF 'ancepslaw05.TokenLines'. -/
def tokenLinesUptoCard : Claim7 := { stood := { row := tokenLinesUptoRow, standIns := [], harness := (true, "16a659aa95795867c575aa6eaac6841fc8a6e47d9c26b886f8e2e6fbd62207cd"), looks := true }, kinds := [], alts := [], laidByText := true, laidKinds := [.data, .data, .data, .data, .sentinel, .sentinel, .pinned], laidTests := true, laidLooks := .later }
def TokenLinesUptoCardSaid : Prop := Claim7.holds Tryd.pinned (.plain (OpenSpec.upto tokenLinesSpec)) tokenLinesUptoCard

/-- THE SECOND FORM's CARD OF 'ancepslaw05.TokenSame'. -/
def tokenSameUptoCard : Claim7 := { stood := { row := tokenSameUptoRow, standIns := [], harness := (true, "16a659aa95795867c575aa6eaac6841fc8a6e47d9c26b886f8e2e6fbd62207cd"), looks := true }, kinds := [], alts := [], laidByText := true, laidKinds := [.data, .data, .data, .sentinel, .sentinel], laidTests := true, laidLooks := .later }
def TokenSameUptoCardSaid : Prop := Claim7.holds Tryd.pinned (.plain (OpenSpec.upto tokenSameSpec)) tokenSameUptoCard

/-- THE SECOND FORM's CARD OF 'ancepslaw05.TokenLong'. -/
def tokenLongUptoCard : Claim7 := { stood := { row := tokenLongUptoRow, standIns := [], harness := (true, "16a659aa95795867c575aa6eaac6841fc8a6e47d9c26b886f8e2e6fbd62207cd"), looks := true }, kinds := [], alts := [], laidByText := true, laidKinds := [.data, .data, .data, .sentinel, .sentinel], laidTests := true, laidLooks := .later }
def TokenLongUptoCardSaid : Prop := Claim7.holds Tryd.pinned (.plain (OpenSpec.upto tokenLongSpec)) tokenLongUptoCard
end Rows
end Go.Proofs.YtngkhggofjeflaaDoor
