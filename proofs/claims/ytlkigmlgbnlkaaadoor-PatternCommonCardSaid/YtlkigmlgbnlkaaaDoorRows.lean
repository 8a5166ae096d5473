/-
  NARROWER THAN 'FOR EVERY INPUT', by the rows' own cells (each row's printed sentence says how): PatternValid: laid · PatternText: laid · PatternMeet: laid · PatternExpand: laid · PatternMorae: laid · PatternCompare: laid · PatternLattice: laid · PatternCommon: laid.
  DERIVED. THE GIVEN ROWS OF THIS SEAT. 8 by the template 'for every input the law returns true; each argument reads behind the call as it read before'; 0 by the template 'total and deterministic' (their statements: YtlkigmlgbnlkaaaDoorTotals.lean).
  GIVEN WITH THE SEED: the statements are not yours to turn. If you find one false, say at which input.
  Laid BY PROGRAM, IN A SANDBOX (cutbox-rows.mjs): the forced cells as the released guide's own fill.sh prints them over the translation 585d3f81d9c46c8d… (all of the seat's roots in one cut). By AI agents, Wed Nov 11 2026. No macro, syntax, notation, axiom, sorry.
-/
import Derived.Test.YtlkigmlgbnlkaaaDoorChecked
import GoSem.PinnedTables
import GoSem.Claim
import GoSem.ClaimJoined
import GoSem.ClaimMapViews
import Derived.JoinedTies
import Derived.KernelRfl
namespace Go.Proofs.YtlkigmlgbnlkaaaDoor
/- THE CELL 'sum', in the pinned program and in every row, IS THE sha256 OF THE DUMP (.gsa) THAT YtlkigmlgbnlkaaaDoorProg.lean LOADS. Nothing in Lean hashes anything: it is a label: what it is worth is what the hold of that sum in a sandbox is worth. -/
noncomputable def Tryd.pinned : Pinned := { name := "ytlkigmlgbnlkaaadoor", sum := "585d3f81d9c46c8d87142ad18ec63a5f6ffcb21d09126ecfd37340942051eea1", checked := Tryd.checked }
namespace Rows
def none {H : Type} : Left H := { results := [], args := [] }

/- WHAT THE LISTED PACKAGE-LEVEL VARIABLES READ AS WHEN THE CALL BEGINS. Each datum BY PROGRAM (the guide's laid-datum.mjs) off the statement by which the dump's own 'gosem.cut.vars' lays the variable. In a bare row this is a premise. The card (YtlkigmlgbnlkaaaDoorCards.lean) ties it to the program's text. -/
def laid_unicode_utf8_acceptRanges {H : Type} : DataW H := .agg [.agg [.lit (.int .u8 128), .lit (.int .u8 191)], .agg [.lit (.int .u8 160), .lit (.int .u8 191)], .agg [.lit (.int .u8 128), .lit (.int .u8 159)], .agg [.lit (.int .u8 144), .lit (.int .u8 191)], .agg [.lit (.int .u8 128), .lit (.int .u8 143)], .agg [.lit (.int .u8 0), .lit (.int .u8 0)], .agg [.lit (.int .u8 0), .lit (.int .u8 0)], .agg [.lit (.int .u8 0), .lit (.int .u8 0)], .agg [.lit (.int .u8 0), .lit (.int .u8 0)], .agg [.lit (.int .u8 0), .lit (.int .u8 0)], .agg [.lit (.int .u8 0), .lit (.int .u8 0)], .agg [.lit (.int .u8 0), .lit (.int .u8 0)], .agg [.lit (.int .u8 0), .lit (.int .u8 0)], .agg [.lit (.int .u8 0), .lit (.int .u8 0)], .agg [.lit (.int .u8 0), .lit (.int .u8 0)], .agg [.lit (.int .u8 0), .lit (.int .u8 0)]]
/-- One of Go's own tables, pinned by name: the form's constant. -/
def laid_unicode_utf8_first : DataW Unit := Go.Pinned.utf8First

/-- 'ancepslaw04.PatternValid': WHATEVER THE INPUT: true; the input reads as it did. -/
def patternValidSpec : ChangeSpec := { name := "patternValid", fn := fun _ => fun
  | [d] => { results := [.lit (.bool true)], args := [d] }
  | _ => none }
def patternValidRow : OpenClaim := { program := "ytlkigmlgbnlkaaadoor", sum := "585d3f81d9c46c8d87142ad18ec63a5f6ffcb21d09126ecfd37340942051eea1", func := "anceps/ancepslaw04.PatternValid", spec := "patternValid", inPlace := ["internal/bytealg.CountString", "internal/bytealg.IndexByteString", "internal/bytealg.IndexString", "internal/abi.NoEscape", "internal/bytealg.MakeNoZero"], named := ["internal/bytealg.MaxLen", "unicode/utf8.first", "unicode/utf8.acceptRanges"], apart := false, laid := [("unicode/utf8.acceptRanges", laid_unicode_utf8_acceptRanges), ("unicode/utf8.first", laid_unicode_utf8_first)] }
def PatternValidSaid : Prop := patternValidRow.holds Tryd.pinned (OpenSpec.ofChange patternValidSpec)

/-- ITS FALSE NEIGHBOUR: 'it returns false'. Refute it at one input. -/
def patternValidWrong : ChangeSpec := { name := "patternValid", fn := fun _ => fun
  | [d] => { results := [.lit (.bool false)], args := [d] }
  | _ => none }
def PatternValidWrongFalsely : Prop := patternValidRow.holds Tryd.pinned (OpenSpec.ofChange patternValidWrong)

/-- 'ancepslaw04.PatternText': WHATEVER THE INPUT: true; the input reads as it did. -/
def patternTextSpec : ChangeSpec := { name := "patternText", fn := fun _ => fun
  | [d] => { results := [.lit (.bool true)], args := [d] }
  | _ => none }
def patternTextRow : OpenClaim := { program := "ytlkigmlgbnlkaaadoor", sum := "585d3f81d9c46c8d87142ad18ec63a5f6ffcb21d09126ecfd37340942051eea1", func := "anceps/ancepslaw04.PatternText", spec := "patternText", inPlace := ["internal/bytealg.CountString", "internal/bytealg.IndexByteString", "internal/bytealg.IndexString", "internal/abi.NoEscape", "internal/bytealg.MakeNoZero"], named := ["internal/bytealg.MaxLen", "unicode/utf8.first", "unicode/utf8.acceptRanges"], apart := false, laid := [("unicode/utf8.acceptRanges", laid_unicode_utf8_acceptRanges), ("unicode/utf8.first", laid_unicode_utf8_first)] }
def PatternTextSaid : Prop := patternTextRow.holds Tryd.pinned (OpenSpec.ofChange patternTextSpec)

/-- ITS FALSE NEIGHBOUR: 'it returns false'. Refute it at one input. -/
def patternTextWrong : ChangeSpec := { name := "patternText", fn := fun _ => fun
  | [d] => { results := [.lit (.bool false)], args := [d] }
  | _ => none }
def PatternTextWrongFalsely : Prop := patternTextRow.holds Tryd.pinned (OpenSpec.ofChange patternTextWrong)

/-- 'ancepslaw04.PatternMeet': WHATEVER THE INPUT: true; the input reads as it did. -/
def patternMeetSpec : ChangeSpec := { name := "patternMeet", fn := fun _ => fun
  | [d1, d2] => { results := [.lit (.bool true)], args := [d1, d2] }
  | _ => none }
def patternMeetRow : OpenClaim := { program := "ytlkigmlgbnlkaaadoor", sum := "585d3f81d9c46c8d87142ad18ec63a5f6ffcb21d09126ecfd37340942051eea1", func := "anceps/ancepslaw04.PatternMeet", spec := "patternMeet", inPlace := ["internal/bytealg.CountString", "internal/bytealg.IndexByteString", "internal/bytealg.IndexString", "internal/abi.NoEscape", "internal/bytealg.MakeNoZero"], named := ["internal/bytealg.MaxLen", "unicode/utf8.first", "unicode/utf8.acceptRanges"], apart := false, laid := [("unicode/utf8.acceptRanges", laid_unicode_utf8_acceptRanges), ("unicode/utf8.first", laid_unicode_utf8_first)] }
def PatternMeetSaid : Prop := patternMeetRow.holds Tryd.pinned (OpenSpec.ofChange patternMeetSpec)

/-- ITS FALSE NEIGHBOUR: 'it returns false'. Refute it at one input. -/
def patternMeetWrong : ChangeSpec := { name := "patternMeet", fn := fun _ => fun
  | [d1, d2] => { results := [.lit (.bool false)], args := [d1, d2] }
  | _ => none }
def PatternMeetWrongFalsely : Prop := patternMeetRow.holds Tryd.pinned (OpenSpec.ofChange patternMeetWrong)

/-- 'ancepslaw04.PatternExpand': WHATEVER THE INPUT: true; the input reads as it did. -/
def patternExpandSpec : ChangeSpec := { name := "patternExpand", fn := fun _ => fun
  | [d] => { results := [.lit (.bool true)], args := [d] }
  | _ => none }
def patternExpandRow : OpenClaim := { program := "ytlkigmlgbnlkaaadoor", sum := "585d3f81d9c46c8d87142ad18ec63a5f6ffcb21d09126ecfd37340942051eea1", func := "anceps/ancepslaw04.PatternExpand", spec := "patternExpand", inPlace := ["internal/bytealg.CountString", "internal/bytealg.IndexByteString", "internal/bytealg.IndexString", "internal/abi.NoEscape", "internal/bytealg.MakeNoZero"], named := ["internal/bytealg.MaxLen", "unicode/utf8.first", "unicode/utf8.acceptRanges"], apart := false, laid := [("unicode/utf8.acceptRanges", laid_unicode_utf8_acceptRanges), ("unicode/utf8.first", laid_unicode_utf8_first)] }
def PatternExpandSaid : Prop := patternExpandRow.holds Tryd.pinned (OpenSpec.ofChange patternExpandSpec)

/-- ITS FALSE NEIGHBOUR: 'it returns false'. Refute it at one input. -/
def patternExpandWrong : ChangeSpec := { name := "patternExpand", fn := fun _ => fun
  | [d] => { results := [.lit (.bool false)], args := [d] }
  | _ => none }
def PatternExpandWrongFalsely : Prop := patternExpandRow.holds Tryd.pinned (OpenSpec.ofChange patternExpandWrong)

/-- 'ancepslaw04.PatternMorae': WHATEVER THE INPUT: true; the input reads as it did. -/
def patternMoraeSpec : ChangeSpec := { name := "patternMorae", fn := fun _ => fun
  | [d] => { results := [.lit (.bool true)], args := [d] }
  | _ => none }
def patternMoraeRow : OpenClaim := { program := "ytlkigmlgbnlkaaadoor", sum := "585d3f81d9c46c8d87142ad18ec63a5f6ffcb21d09126ecfd37340942051eea1", func := "anceps/ancepslaw04.PatternMorae", spec := "patternMorae", inPlace := ["internal/bytealg.CountString", "internal/bytealg.IndexByteString", "internal/bytealg.IndexString", "internal/abi.NoEscape", "internal/bytealg.MakeNoZero"], named := ["internal/bytealg.MaxLen", "unicode/utf8.first", "unicode/utf8.acceptRanges"], apart := false, laid := [("unicode/utf8.acceptRanges", laid_unicode_utf8_acceptRanges), ("unicode/utf8.first", laid_unicode_utf8_first)] }
def PatternMoraeSaid : Prop := patternMoraeRow.holds Tryd.pinned (OpenSpec.ofChange patternMoraeSpec)

/-- ITS FALSE NEIGHBOUR: 'it returns false'. Refute it at one input. -/
def patternMoraeWrong : ChangeSpec := { name := "patternMorae", fn := fun _ => fun
  | [d] => { results := [.lit (.bool false)], args := [d] }
  | _ => none }
def PatternMoraeWrongFalsely : Prop := patternMoraeRow.holds Tryd.pinned (OpenSpec.ofChange patternMoraeWrong)

/-- 'ancepslaw04.PatternCompare': WHATEVER THE INPUT: true; the input reads as it did. -/
def patternCompareSpec : ChangeSpec := { name := "patternCompare", fn := fun _ => fun
  | [d1, d2, d3] => { results := [.lit (.bool true)], args := [d1, d2, d3] }
  | _ => none }
def patternCompareRow : OpenClaim := { program := "ytlkigmlgbnlkaaadoor", sum := "585d3f81d9c46c8d87142ad18ec63a5f6ffcb21d09126ecfd37340942051eea1", func := "anceps/ancepslaw04.PatternCompare", spec := "patternCompare", inPlace := ["internal/bytealg.CountString", "internal/bytealg.IndexByteString", "internal/bytealg.IndexString", "internal/abi.NoEscape", "internal/bytealg.MakeNoZero"], named := ["internal/bytealg.MaxLen", "unicode/utf8.first", "unicode/utf8.acceptRanges"], apart := false, laid := [("unicode/utf8.acceptRanges", laid_unicode_utf8_acceptRanges), ("unicode/utf8.first", laid_unicode_utf8_first)] }
def PatternCompareSaid : Prop := patternCompareRow.holds Tryd.pinned (OpenSpec.ofChange patternCompareSpec)

/-- ITS FALSE NEIGHBOUR: 'it returns false'. Refute it at one input. -/
def patternCompareWrong : ChangeSpec := { name := "patternCompare", fn := fun _ => fun
  | [d1, d2, d3] => { results := [.lit (.bool false)], args := [d1, d2, d3] }
  | _ => none }
def PatternCompareWrongFalsely : Prop := patternCompareRow.holds Tryd.pinned (OpenSpec.ofChange patternCompareWrong)

/-- 'ancepslaw04.PatternLattice': WHATEVER THE INPUT: true; the input reads as it did. -/
def patternLatticeSpec : ChangeSpec := { name := "patternLattice", fn := fun _ => fun
  | [d1, d2, d3] => { results := [.lit (.bool true)], args := [d1, d2, d3] }
  | _ => none }
def patternLatticeRow : OpenClaim := { program := "ytlkigmlgbnlkaaadoor", sum := "585d3f81d9c46c8d87142ad18ec63a5f6ffcb21d09126ecfd37340942051eea1", func := "anceps/ancepslaw04.PatternLattice", spec := "patternLattice", inPlace := ["internal/bytealg.CountString", "internal/bytealg.IndexByteString", "internal/bytealg.IndexString", "internal/abi.NoEscape", "internal/bytealg.MakeNoZero"], named := ["internal/bytealg.MaxLen", "unicode/utf8.first", "unicode/utf8.acceptRanges"], apart := false, laid := [("unicode/utf8.acceptRanges", laid_unicode_utf8_acceptRanges), ("unicode/utf8.first", laid_unicode_utf8_first)] }
def PatternLatticeSaid : Prop := patternLatticeRow.holds Tryd.pinned (OpenSpec.ofChange patternLatticeSpec)

/-- ITS FALSE NEIGHBOUR: 'it returns false'. Refute it at one input. -/
def patternLatticeWrong : ChangeSpec := { name := "patternLattice", fn := fun _ => fun
  | [d1, d2, d3] => { results := [.lit (.bool false)], args := [d1, d2, d3] }
  | _ => none }
def PatternLatticeWrongFalsely : Prop := patternLatticeRow.holds Tryd.pinned (OpenSpec.ofChange patternLatticeWrong)

/-- 'ancepslaw04.PatternCommon': WHATEVER THE INPUT: true; the input reads as it did. -/
def patternCommonSpec : ChangeSpec := { name := "patternCommon", fn := fun _ => fun
  | [d1, d2, d3] => { results := [.lit (.bool true)], args := [d1, d2, d3] }
  | _ => none }
def patternCommonRow : OpenClaim := { program := "ytlkigmlgbnlkaaadoor", sum := "585d3f81d9c46c8d87142ad18ec63a5f6ffcb21d09126ecfd37340942051eea1", func := "anceps/ancepslaw04.PatternCommon", spec := "patternCommon", inPlace := ["internal/bytealg.CountString", "internal/bytealg.IndexByteString", "internal/bytealg.IndexString", "internal/abi.NoEscape", "internal/bytealg.MakeNoZero"], named := ["internal/bytealg.MaxLen", "unicode/utf8.first", "unicode/utf8.acceptRanges"], apart := false, laid := [("unicode/utf8.acceptRanges", laid_unicode_utf8_acceptRanges), ("unicode/utf8.first", laid_unicode_utf8_first)] }
def PatternCommonSaid : Prop := patternCommonRow.holds Tryd.pinned (OpenSpec.ofChange patternCommonSpec)

/-- ITS FALSE NEIGHBOUR: 'it returns false'. Refute it at one input. -/
def patternCommonWrong : ChangeSpec := { name := "patternCommon", fn := fun _ => fun
  | [d1, d2, d3] => { results := [.lit (.bool false)], args := [d1, d2, d3] }
  | _ => none }
def PatternCommonWrongFalsely : Prop := patternCommonRow.holds Tryd.pinned (OpenSpec.ofChange patternCommonWrong)

/- THE SECOND FORM. 'bulk': how many values and letters a reading holds, each counted each time it is reached (what is shared counts as often as it is met; a slice's spare places count too). A statement '..UptoSaid' is the law's where the arguments, and the package variables that the reading takes, are together of bulk at most 1048576: NARROWER than '..Said'. Prove '..Said' where nothing that the law and all that it calls make is longer than what came in: it says more and counts as full. Else prove '..UptoSaid'. A law counts once. -/
mutual
def uptoBulk {H : Type} : DataW H → Nat
  | .lit (.string bytes) => bytes.length + 1
  | .lit _ => 1
  | .nil => 1
  | .ptr d => uptoBulk d + 1
  | .slice elems spare => uptoBulkAll elems + uptoBulkAll spare + 1
  | .agg parts => uptoBulkAll parts + 1
  | .iface _ d => uptoBulk d + 1
  | .map entries => uptoBulkEntries entries + 1
  | .held _ => 1
def uptoBulkAll {H : Type} : List (DataW H) → Nat
  | [] => 0
  | d :: r => uptoBulk d + uptoBulkAll r
def uptoBulkEntries {H : Type} : List (Lit × DataW H) → Nat
  | [] => 0
  | x :: r => uptoBulkEntry x + uptoBulkEntries r
def uptoBulkEntry {H : Type} : Lit × DataW H → Nat
  | (.string bytes, d) => bytes.length + uptoBulk d + 1
  | (_, d) => uptoBulk d + 1
 end
def uptoSmall : (H : Type) → List (DataW H) → Bool := fun _ ds => decide (uptoBulkAll ds ≤ 1048576)
def OpenSpec.upto (s : _root_.Go.ChangeSpec) : _root_.Go.OpenSpec := { _root_.Go.OpenSpec.ofChange s with cond := some uptoSmall }

/-- 'ancepslaw04.PatternValid', WHERE WHAT IT READS IS OF BULK AT MOST 1048576: true; the input reads as it did. -/
def patternValidUptoRow : OpenClaim := { program := "ytlkigmlgbnlkaaadoor", sum := "585d3f81d9c46c8d87142ad18ec63a5f6ffcb21d09126ecfd37340942051eea1", func := "anceps/ancepslaw04.PatternValid", spec := "patternValid", inPlace := ["internal/bytealg.CountString", "internal/bytealg.IndexByteString", "internal/bytealg.IndexString", "internal/abi.NoEscape", "internal/bytealg.MakeNoZero"], named := ["internal/bytealg.MaxLen", "unicode/utf8.first", "unicode/utf8.acceptRanges"], apart := false, laid := [("unicode/utf8.acceptRanges", laid_unicode_utf8_acceptRanges), ("unicode/utf8.first", laid_unicode_utf8_first)], narrowed := true }
def PatternValidUptoSaid : Prop := patternValidUptoRow.holds Tryd.pinned (OpenSpec.upto patternValidSpec)

/-- 'ancepslaw04.PatternText', WHERE WHAT IT READS IS OF BULK AT MOST 1048576: true; the input reads as it did. -/
def patternTextUptoRow : OpenClaim := { program := "ytlkigmlgbnlkaaadoor", sum := "585d3f81d9c46c8d87142ad18ec63a5f6ffcb21d09126ecfd37340942051eea1", func := "anceps/ancepslaw04.PatternText", spec := "patternText", inPlace := ["internal/bytealg.CountString", "internal/bytealg.IndexByteString", "internal/bytealg.IndexString", "internal/abi.NoEscape", "internal/bytealg.MakeNoZero"], named := ["internal/bytealg.MaxLen", "unicode/utf8.first", "unicode/utf8.acceptRanges"], apart := false, laid := [("unicode/utf8.acceptRanges", laid_unicode_utf8_acceptRanges), ("unicode/utf8.first", laid_unicode_utf8_first)], narrowed := true }
def PatternTextUptoSaid : Prop := patternTextUptoRow.holds Tryd.pinned (OpenSpec.upto patternTextSpec)

/-- 'ancepslaw04.PatternMeet', WHERE WHAT IT READS IS OF BULK AT MOST 1048576: true; the input reads as it did. -/
def patternMeetUptoRow : OpenClaim := { program := "ytlkigmlgbnlkaaadoor", sum := "585d3f81d9c46c8d87142ad18ec63a5f6ffcb21d09126ecfd37340942051eea1", func := "anceps/ancepslaw04.PatternMeet", spec := "patternMeet", inPlace := ["internal/bytealg.CountString", "internal/bytealg.IndexByteString", "internal/bytealg.IndexString", "internal/abi.NoEscape", "internal/bytealg.MakeNoZero"], named := ["internal/bytealg.MaxLen", "unicode/utf8.first", "unicode/utf8.acceptRanges"], apart := false, laid := [("unicode/utf8.acceptRanges", laid_unicode_utf8_acceptRanges), ("unicode/utf8.first", laid_unicode_utf8_first)], narrowed := true }
def PatternMeetUptoSaid : Prop := patternMeetUptoRow.holds Tryd.pinned (OpenSpec.upto patternMeetSpec)

/-- 'ancepslaw04.PatternExpand', WHERE WHAT IT READS IS OF BULK AT MOST 1048576: true; the input reads as it did. -/
def patternExpandUptoRow : OpenClaim := { program := "ytlkigmlgbnlkaaadoor", sum := "585d3f81d9c46c8d87142ad18ec63a5f6ffcb21d09126ecfd37340942051eea1", func := "anceps/ancepslaw04.PatternExpand", spec := "patternExpand", inPlace := ["internal/bytealg.CountString", "internal/bytealg.IndexByteString", "internal/bytealg.IndexString", "internal/abi.NoEscape", "internal/bytealg.MakeNoZero"], named := ["internal/bytealg.MaxLen", "unicode/utf8.first", "unicode/utf8.acceptRanges"], apart := false, laid := [("unicode/utf8.acceptRanges", laid_unicode_utf8_acceptRanges), ("unicode/utf8.first", laid_unicode_utf8_first)], narrowed := true }
def PatternExpandUptoSaid : Prop := patternExpandUptoRow.holds Tryd.pinned (OpenSpec.upto patternExpandSpec)

/-- 'ancepslaw04.PatternMorae', WHERE WHAT IT READS IS OF BULK AT MOST 1048576: true; the input reads as it did. -/
def patternMoraeUptoRow : OpenClaim := { program := "ytlkigmlgbnlkaaadoor", sum := "585d3f81d9c46c8d87142ad18ec63a5f6ffcb21d09126ecfd37340942051eea1", func := "anceps/ancepslaw04.PatternMorae", spec := "patternMorae", inPlace := ["internal/bytealg.CountString", "internal/bytealg.IndexByteString", "internal/bytealg.IndexString", "internal/abi.NoEscape", "internal/bytealg.MakeNoZero"], named := ["internal/bytealg.MaxLen", "unicode/utf8.first", "unicode/utf8.acceptRanges"], apart := false, laid := [("unicode/utf8.acceptRanges", laid_unicode_utf8_acceptRanges), ("unicode/utf8.first", laid_unicode_utf8_first)], narrowed := true }
def PatternMoraeUptoSaid : Prop := patternMoraeUptoRow.holds Tryd.pinned (OpenSpec.upto patternMoraeSpec)

/-- 'ancepslaw04.PatternCompare', WHERE WHAT IT READS IS OF BULK AT MOST 1048576: true; the input reads as it did. -/
def patternCompareUptoRow : OpenClaim := { program := "ytlkigmlgbnlkaaadoor", sum := "585d3f81d9c46c8d87142ad18ec63a5f6ffcb21d09126ecfd37340942051eea1", func := "anceps/ancepslaw04.PatternCompare", spec := "patternCompare", inPlace := ["internal/bytealg.CountString", "internal/bytealg.IndexByteString", "internal/bytealg.IndexString", "internal/abi.NoEscape", "internal/bytealg.MakeNoZero"], named := ["internal/bytealg.MaxLen", "unicode/utf8.first", "unicode/utf8.acceptRanges"], apart := false, laid := [("unicode/utf8.acceptRanges", laid_unicode_utf8_acceptRanges), ("unicode/utf8.first", laid_unicode_utf8_first)], narrowed := true }
def PatternCompareUptoSaid : Prop := patternCompareUptoRow.holds Tryd.pinned (OpenSpec.upto patternCompareSpec)

/-- 'ancepslaw04.PatternLattice', WHERE WHAT IT READS IS OF BULK AT MOST 1048576: true; the input reads as it did. -/
def patternLatticeUptoRow : OpenClaim := { program := "ytlkigmlgbnlkaaadoor", sum := "585d3f81d9c46c8d87142ad18ec63a5f6ffcb21d09126ecfd37340942051eea1", func := "anceps/ancepslaw04.PatternLattice", spec := "patternLattice", inPlace := ["internal/bytealg.CountString", "internal/bytealg.IndexByteString", "internal/bytealg.IndexString", "internal/abi.NoEscape", "internal/bytealg.MakeNoZero"], named := ["internal/bytealg.MaxLen", "unicode/utf8.first", "unicode/utf8.acceptRanges"], apart := false, laid := [("unicode/utf8.acceptRanges", laid_unicode_utf8_acceptRanges), ("unicode/utf8.first", laid_unicode_utf8_first)], narrowed := true }
def PatternLatticeUptoSaid : Prop := patternLatticeUptoRow.holds Tryd.pinned (OpenSpec.upto patternLatticeSpec)

/-- 'ancepslaw04.PatternCommon', WHERE WHAT IT READS IS OF BULK AT MOST 1048576: true; the input reads as it did. -/
def patternCommonUptoRow : OpenClaim := { program := "ytlkigmlgbnlkaaadoor", sum := "585d3f81d9c46c8d87142ad18ec63a5f6ffcb21d09126ecfd37340942051eea1", func := "anceps/ancepslaw04.PatternCommon", spec := "patternCommon", inPlace := ["internal/bytealg.CountString", "internal/bytealg.IndexByteString", "internal/bytealg.IndexString", "internal/abi.NoEscape", "internal/bytealg.MakeNoZero"], named := ["internal/bytealg.MaxLen", "unicode/utf8.first", "unicode/utf8.acceptRanges"], apart := false, laid := [("unicode/utf8.acceptRanges", laid_unicode_utf8_acceptRanges), ("unicode/utf8.first", laid_unicode_utf8_first)], narrowed := true }
def PatternCommonUptoSaid : Prop := patternCommonUptoRow.holds Tryd.pinned (OpenSpec.upto patternCommonSpec)

end Rows
end Go.Proofs.YtlkigmlgbnlkaaaDoor
