/-
  DERIVED. GIVEN WITH THE SEED: THE CARDS: each row of YtlkigmlgbnlkaaaDoorRows.lean that lists a variable, with what it lists TIED to the program's text (the seventh form; the later family's looks); each row that meets fmt, with fmt's text TOLD by the authors' own Lean function (tested against real Go, not proved from fmt's source: count such statements apart). THE CARD IS WHAT COUNTS. Prove the row's statement (the work); the ties are given (YtlkigmlgbnlkaaaDoorTie.lean); close each card by the builder's one call (the guide's Derived/Test/ToyasCard.lean, 'card_holds'). Laid BY PROGRAM, IN A SANDBOX (cutbox-door.mjs). By AI agents, Wed Nov 11 2026. No macro, syntax, notation, axiom, sorry.
-/
import Derived.Test.YtlkigmlgbnlkaaaDoorRows
import GoSem.ClaimSeven
namespace Go.Proofs.YtlkigmlgbnlkaaaDoor
namespace Rows

/-- THE TIED CARD OF 'ancepslaw04.PatternValid'. -/
def patternValidCard : Claim7 := { stood := { row := patternValidRow, standIns := [], harness := (true, "1a9f8f10adf263deadee8b2f1049c0d93b09e51e0fbf35d6bd614813e159e66e"), looks := false }, kinds := [], alts := [], laidByText := true, laidKinds := [.data, .pinned], laidTests := true, laidLooks := .later }
def PatternValidCardSaid : Prop := Claim7.holds Tryd.pinned (.plain (OpenSpec.ofChange patternValidSpec)) patternValidCard

/-- THE TIED CARD OF 'ancepslaw04.PatternText'. -/
def patternTextCard : Claim7 := { stood := { row := patternTextRow, standIns := [], harness := (true, "1a9f8f10adf263deadee8b2f1049c0d93b09e51e0fbf35d6bd614813e159e66e"), looks := false }, kinds := [], alts := [], laidByText := true, laidKinds := [.data, .pinned], laidTests := true, laidLooks := .later }
def PatternTextCardSaid : Prop := Claim7.holds Tryd.pinned (.plain (OpenSpec.ofChange patternTextSpec)) patternTextCard

/-- THE TIED CARD OF 'ancepslaw04.PatternMeet'. -/
def patternMeetCard : Claim7 := { stood := { row := patternMeetRow, standIns := [], harness := (true, "1a9f8f10adf263deadee8b2f1049c0d93b09e51e0fbf35d6bd614813e159e66e"), looks := false }, kinds := [], alts := [], laidByText := true, laidKinds := [.data, .pinned], laidTests := true, laidLooks := .later }
def PatternMeetCardSaid : Prop := Claim7.holds Tryd.pinned (.plain (OpenSpec.ofChange patternMeetSpec)) patternMeetCard

/-- THE TIED CARD OF 'ancepslaw04.PatternExpand'. -/
def patternExpandCard : Claim7 := { stood := { row := patternExpandRow, standIns := [], harness := (true, "1a9f8f10adf263deadee8b2f1049c0d93b09e51e0fbf35d6bd614813e159e66e"), looks := false }, kinds := [], alts := [], laidByText := true, laidKinds := [.data, .pinned], laidTests := true, laidLooks := .later }
def PatternExpandCardSaid : Prop := Claim7.holds Tryd.pinned (.plain (OpenSpec.ofChange patternExpandSpec)) patternExpandCard

/-- THE TIED CARD OF 'ancepslaw04.PatternMorae'. -/
def patternMoraeCard : Claim7 := { stood := { row := patternMoraeRow, standIns := [], harness := (true, "1a9f8f10adf263deadee8b2f1049c0d93b09e51e0fbf35d6bd614813e159e66e"), looks := false }, kinds := [], alts := [], laidByText := true, laidKinds := [.data, .pinned], laidTests := true, laidLooks := .later }
def PatternMoraeCardSaid : Prop := Claim7.holds Tryd.pinned (.plain (OpenSpec.ofChange patternMoraeSpec)) patternMoraeCard

/-- THE TIED CARD OF 'ancepslaw04.PatternCompare'. -/
def patternCompareCard : Claim7 := { stood := { row := patternCompareRow, standIns := [], harness := (true, "1a9f8f10adf263deadee8b2f1049c0d93b09e51e0fbf35d6bd614813e159e66e"), looks := false }, kinds := [], alts := [], laidByText := true, laidKinds := [.data, .pinned], laidTests := true, laidLooks := .later }
def PatternCompareCardSaid : Prop := Claim7.holds Tryd.pinned (.plain (OpenSpec.ofChange patternCompareSpec)) patternCompareCard

/-- THE TIED CARD OF 'ancepslaw04.PatternLattice'. -/
def patternLatticeCard : Claim7 := { stood := { row := patternLatticeRow, standIns := [], harness := (true, "1a9f8f10adf263deadee8b2f1049c0d93b09e51e0fbf35d6bd614813e159e66e"), looks := false }, kinds := [], alts := [], laidByText := true, laidKinds := [.data, .pinned], laidTests := true, laidLooks := .later }
def PatternLatticeCardSaid : Prop := Claim7.holds Tryd.pinned (.plain (OpenSpec.ofChange patternLatticeSpec)) patternLatticeCard

/-- THE TIED CARD OF 'ancepslaw04.PatternCommon'. -/
def patternCommonCard : Claim7 := { stood := { row := patternCommonRow, standIns := [], harness := (true, "1a9f8f10adf263deadee8b2f1049c0d93b09e51e0fbf35d6bd614813e159e66e"), looks := false }, kinds := [], alts := [], laidByText := true, laidKinds := [.data, .pinned], laidTests := true, laidLooks := .later }
def PatternCommonCardSaid : Prop := Claim7.holds Tryd.pinned (.plain (OpenSpec.ofChange patternCommonSpec)) patternCommonCard

/-- THE SECOND FORM's CARD OF 'ancepslaw04.PatternValid'. -/
def patternValidUptoCard : Claim7 := { stood := { row := patternValidUptoRow, standIns := [], harness := (true, "1a9f8f10adf263deadee8b2f1049c0d93b09e51e0fbf35d6bd614813e159e66e"), looks := false }, kinds := [], alts := [], laidByText := true, laidKinds := [.data, .pinned], laidTests := true, laidLooks := .later }
def PatternValidUptoCardSaid : Prop := Claim7.holds Tryd.pinned (.plain (OpenSpec.upto patternValidSpec)) patternValidUptoCard

/-- THE SECOND FORM's CARD OF 'ancepslaw04.PatternText'. -/
def patternTextUptoCard : Claim7 := { stood := { row := patternTextUptoRow, standIns := [], harness := (true, "1a9f8f10adf263deadee8b2f1049c0d93b09e51e0fbf35d6bd614813e159e66e"), looks := false }, kinds := [], alts := [], laidByText := true, laidKinds := [.data, .pinned], laidTests := true, laidLooks := .later }
def PatternTextUptoCardSaid : Prop := Claim7.holds Tryd.pinned (.plain (OpenSpec.upto patternTextSpec)) patternTextUptoCard

/-- THE SECOND FORM's CARD OF 'ancepslaw04.PatternMeet'. -/
def patternMeetUptoCard : Claim7 := { stood := { row := patternMeetUptoRow, standIns := [], harness := (true, "1a9f8f10adf263deadee8b2f1049c0d93b09e51e0fbf35d6bd614813e159e66e"), looks := false }, kinds := [], alts := [], laidByText := true, laidKinds := [.data, .pinned], laidTests := true, laidLooks := .later }
def PatternMeetUptoCardSaid : Prop := Claim7.holds Tryd.pinned (.plain (OpenSpec.upto patternMeetSpec)) patternMeetUptoCard

/-- THE SECOND FORM's CARD OF 'ancepslaw04.PatternExpand'. -/
def patternExpandUptoCard : Claim7 := { stood := { row := patternExpandUptoRow, standIns := [], harness := (true, "1a9f8f10adf263deadee8b2f1049c0d93b09e51e0fbf35d6bd614813e159e66e"), looks := false }, kinds := [], alts := [], laidByText := true, laidKinds := [.data, .pinned], laidTests := true, laidLooks := .later }
def PatternExpandUptoCardSaid : Prop := Claim7.holds Tryd.pinned (.plain (OpenSpec.upto patternExpandSpec)) patternExpandUptoCard

/-- THE SECOND FORM's CARD OF 'ancepslaw04.PatternMorae'. -/
def patternMoraeUptoCard : Claim7 := { stood := { row := patternMoraeUptoRow, standIns := [], harness := (true, "1a9f8f10adf263deadee8b2f1049c0d93b09e51e0fbf35d6bd614813e159e66e"), looks := false }, kinds := [], alts := [], laidByText := true, laidKinds := [.data, .pinned], laidTests := true, laidLooks := .later }
def PatternMoraeUptoCardSaid : Prop := Claim7.holds Tryd.pinned (.plain (OpenSpec.upto patternMoraeSpec)) patternMoraeUptoCard

/-- THE SECOND FORM's CARD OF 'ancepslaw04.PatternCompare'. -/
def patternCompareUptoCard : Claim7 := { stood := { row := patternCompareUptoRow, standIns := [], harness := (true, "1a9f8f10adf263deadee8b2f1049c0d93b09e51e0fbf35d6bd614813e159e66e"), looks := false }, kinds := [], alts := [], laidByText := true, laidKinds := [.data, .pinned], laidTests := true, laidLooks := .later }
def PatternCompareUptoCardSaid : Prop := Claim7.holds Tryd.pinned (.plain (OpenSpec.upto patternCompareSpec)) patternCompareUptoCard

/-- THE SECOND FORM's CARD OF 'ancepslaw04.PatternLattice'. -/
def patternLatticeUptoCard : Claim7 := { stood := { row := patternLatticeUptoRow, standIns := [], harness := (true, "1a9f8f10adf263deadee8b2f1049c0d93b09e51e0fbf35d6bd614813e159e66e"), looks := false }, kinds := [], alts := [], laidByText := true, laidKinds := [.data, .pinned], laidTests := true, laidLooks := .later }
def PatternLatticeUptoCardSaid : Prop := Claim7.holds Tryd.pinned (.plain (OpenSpec.upto patternLatticeSpec)) patternLatticeUptoCard

/-- THE SECOND FORM's CARD OF 'ancepslaw04.PatternCommon'. -/
def patternCommonUptoCard : Claim7 := { stood := { row := patternCommonUptoRow, standIns := [], harness := (true, "1a9f8f10adf263deadee8b2f1049c0d93b09e51e0fbf35d6bd614813e159e66e"), looks := false }, kinds := [], alts := [], laidByText := true, laidKinds := [.data, .pinned], laidTests := true, laidLooks := .later }
def PatternCommonUptoCardSaid : Prop := Claim7.holds Tryd.pinned (.plain (OpenSpec.upto patternCommonSpec)) patternCommonUptoCard
end Rows
end Go.Proofs.YtlkigmlgbnlkaaaDoor
