/-
  No cell of these rows narrows 'for every input' (looked for: loops, veiled, ifaces, maps, wideKeys, modest, calm, conditions, laid).
  DERIVED. THE GIVEN ROWS OF THIS SEAT. 12 by the template 'for every input the law returns true; each argument reads behind the call as it read before'; 0 by the template 'total and deterministic' (their statements: YtdoobdfanalnbaaTotals.lean).
  GIVEN WITH THE SEED: the statements are not yours to turn. If you find one false, say at which input.
  Laid BY PROGRAM, IN A SANDBOX (cutbox-rows.mjs): the forced cells as the released guide's own fill.sh prints them over the translation 1c63d448765df3d3… (all of the seat's roots in one cut). By AI agents, Wed Nov 11 2026. No macro, syntax, notation, axiom, sorry.
-/
import Derived.Test.YtdoobdfanalnbaaChecked
import GoSem.Claim
import GoSem.ClaimJoined
import GoSem.ClaimMapViews
import Derived.JoinedTies
import Derived.KernelRfl
namespace Go.Proofs.Ytdoobdfanalnbaa
/- THE CELL 'sum', in the pinned program and in every row, IS THE sha256 OF THE DUMP (.gsa) THAT YtdoobdfanalnbaaProg.lean LOADS. Nothing in Lean hashes anything: it is a label: what it is worth is what the hold of that sum in a sandbox is worth. -/
noncomputable def Try.pinned : Pinned := { name := "ytdoobdfanalnbaa", sum := "1c63d448765df3d30c312c7a050fa572fffe784e05eed8e5dddf245cc061eb49", checked := Try.checked }
namespace Rows
def none {H : Type} : Left H := { results := [], args := [] }

/-- 'ancepslaw09.DagTrim': WHATEVER THE INPUT: true; the input reads as it did. -/
def dagTrimSpec : ChangeSpec := { name := "dagTrim", fn := fun _ => fun
  | [d] => { results := [.lit (.bool true)], args := [d] }
  | _ => none }
def dagTrimRow : OpenClaim := { program := "ytdoobdfanalnbaa", sum := "1c63d448765df3d30c312c7a050fa572fffe784e05eed8e5dddf245cc061eb49", func := "anceps/ancepslaw09.DagTrim", spec := "dagTrim", unfollowed := true, recurses := true, apart := false }
def DagTrimSaid : Prop := dagTrimRow.holds Try.pinned (OpenSpec.ofChange dagTrimSpec)

/-- ITS FALSE NEIGHBOUR: 'it returns false'. Refute it at one input. -/
def dagTrimWrong : ChangeSpec := { name := "dagTrim", fn := fun _ => fun
  | [d] => { results := [.lit (.bool false)], args := [d] }
  | _ => none }
def DagTrimWrongFalsely : Prop := dagTrimRow.holds Try.pinned (OpenSpec.ofChange dagTrimWrong)

/-- 'ancepslaw09.DagKeeps': WHATEVER THE INPUT: true; the input reads as it did. -/
def dagKeepsSpec : ChangeSpec := { name := "dagKeeps", fn := fun _ => fun
  | [d1, d2] => { results := [.lit (.bool true)], args := [d1, d2] }
  | _ => none }
def dagKeepsRow : OpenClaim := { program := "ytdoobdfanalnbaa", sum := "1c63d448765df3d30c312c7a050fa572fffe784e05eed8e5dddf245cc061eb49", func := "anceps/ancepslaw09.DagKeeps", spec := "dagKeeps", unfollowed := true, recurses := true, apart := false }
def DagKeepsSaid : Prop := dagKeepsRow.holds Try.pinned (OpenSpec.ofChange dagKeepsSpec)

/-- ITS FALSE NEIGHBOUR: 'it returns false'. Refute it at one input. -/
def dagKeepsWrong : ChangeSpec := { name := "dagKeeps", fn := fun _ => fun
  | [d1, d2] => { results := [.lit (.bool false)], args := [d1, d2] }
  | _ => none }
def DagKeepsWrongFalsely : Prop := dagKeepsRow.holds Try.pinned (OpenSpec.ofChange dagKeepsWrong)

/-- 'ancepslaw10.RouteBest': WHATEVER THE INPUT: true; the input reads as it did. -/
def routeBestSpec : ChangeSpec := { name := "routeBest", fn := fun _ => fun
  | [d] => { results := [.lit (.bool true)], args := [d] }
  | _ => none }
def routeBestRow : OpenClaim := { program := "ytdoobdfanalnbaa", sum := "1c63d448765df3d30c312c7a050fa572fffe784e05eed8e5dddf245cc061eb49", func := "anceps/ancepslaw10.RouteBest", spec := "routeBest", unfollowed := true, recurses := true, apart := false }
def RouteBestSaid : Prop := routeBestRow.holds Try.pinned (OpenSpec.ofChange routeBestSpec)

/-- ITS FALSE NEIGHBOUR: 'it returns false'. Refute it at one input. -/
def routeBestWrong : ChangeSpec := { name := "routeBest", fn := fun _ => fun
  | [d] => { results := [.lit (.bool false)], args := [d] }
  | _ => none }
def RouteBestWrongFalsely : Prop := routeBestRow.holds Try.pinned (OpenSpec.ofChange routeBestWrong)

/-- 'ancepslaw10.RouteChecks': WHATEVER THE INPUT: true; the input reads as it did. -/
def routeChecksSpec : ChangeSpec := { name := "routeChecks", fn := fun _ => fun
  | [d1, d2, d3] => { results := [.lit (.bool true)], args := [d1, d2, d3] }
  | _ => none }
def routeChecksRow : OpenClaim := { program := "ytdoobdfanalnbaa", sum := "1c63d448765df3d30c312c7a050fa572fffe784e05eed8e5dddf245cc061eb49", func := "anceps/ancepslaw10.RouteChecks", spec := "routeChecks", unfollowed := true, recurses := true, apart := false }
def RouteChecksSaid : Prop := routeChecksRow.holds Try.pinned (OpenSpec.ofChange routeChecksSpec)

/-- ITS FALSE NEIGHBOUR: 'it returns false'. Refute it at one input. -/
def routeChecksWrong : ChangeSpec := { name := "routeChecks", fn := fun _ => fun
  | [d1, d2, d3] => { results := [.lit (.bool false)], args := [d1, d2, d3] }
  | _ => none }
def RouteChecksWrongFalsely : Prop := routeChecksRow.holds Try.pinned (OpenSpec.ofChange routeChecksWrong)

/-- 'ancepslaw10.RouteList': WHATEVER THE INPUT: true; the input reads as it did. -/
def routeListSpec : ChangeSpec := { name := "routeList", fn := fun _ => fun
  | [d1, d2] => { results := [.lit (.bool true)], args := [d1, d2] }
  | _ => none }
def routeListRow : OpenClaim := { program := "ytdoobdfanalnbaa", sum := "1c63d448765df3d30c312c7a050fa572fffe784e05eed8e5dddf245cc061eb49", func := "anceps/ancepslaw10.RouteList", spec := "routeList", unfollowed := true, recurses := true, apart := false }
def RouteListSaid : Prop := routeListRow.holds Try.pinned (OpenSpec.ofChange routeListSpec)

/-- ITS FALSE NEIGHBOUR: 'it returns false'. Refute it at one input. -/
def routeListWrong : ChangeSpec := { name := "routeList", fn := fun _ => fun
  | [d1, d2] => { results := [.lit (.bool false)], args := [d1, d2] }
  | _ => none }
def RouteListWrongFalsely : Prop := routeListRow.holds Try.pinned (OpenSpec.ofChange routeListWrong)

/-- 'ancepslaw10.RouteNext': WHATEVER THE INPUT: true; the input reads as it did. -/
def routeNextSpec : ChangeSpec := { name := "routeNext", fn := fun _ => fun
  | [d1, d2] => { results := [.lit (.bool true)], args := [d1, d2] }
  | _ => none }
def routeNextRow : OpenClaim := { program := "ytdoobdfanalnbaa", sum := "1c63d448765df3d30c312c7a050fa572fffe784e05eed8e5dddf245cc061eb49", func := "anceps/ancepslaw10.RouteNext", spec := "routeNext", unfollowed := true, recurses := true, apart := false }
def RouteNextSaid : Prop := routeNextRow.holds Try.pinned (OpenSpec.ofChange routeNextSpec)

/-- ITS FALSE NEIGHBOUR: 'it returns false'. Refute it at one input. -/
def routeNextWrong : ChangeSpec := { name := "routeNext", fn := fun _ => fun
  | [d1, d2] => { results := [.lit (.bool false)], args := [d1, d2] }
  | _ => none }
def RouteNextWrongFalsely : Prop := routeNextRow.holds Try.pinned (OpenSpec.ofChange routeNextWrong)

/-- 'ancepslaw10.RouteWithin': WHATEVER THE INPUT: true; the input reads as it did. -/
def routeWithinSpec : ChangeSpec := { name := "routeWithin", fn := fun _ => fun
  | [d1, d2] => { results := [.lit (.bool true)], args := [d1, d2] }
  | _ => none }
def routeWithinRow : OpenClaim := { program := "ytdoobdfanalnbaa", sum := "1c63d448765df3d30c312c7a050fa572fffe784e05eed8e5dddf245cc061eb49", func := "anceps/ancepslaw10.RouteWithin", spec := "routeWithin", unfollowed := true, recurses := true, apart := false }
def RouteWithinSaid : Prop := routeWithinRow.holds Try.pinned (OpenSpec.ofChange routeWithinSpec)

/-- ITS FALSE NEIGHBOUR: 'it returns false'. Refute it at one input. -/
def routeWithinWrong : ChangeSpec := { name := "routeWithin", fn := fun _ => fun
  | [d1, d2] => { results := [.lit (.bool false)], args := [d1, d2] }
  | _ => none }
def RouteWithinWrongFalsely : Prop := routeWithinRow.holds Try.pinned (OpenSpec.ofChange routeWithinWrong)

/-- 'ancepslaw10.RouteAll': WHATEVER THE INPUT: true; the input reads as it did. -/
def routeAllSpec : ChangeSpec := { name := "routeAll", fn := fun _ => fun
  | [d1, d2] => { results := [.lit (.bool true)], args := [d1, d2] }
  | _ => none }
def routeAllRow : OpenClaim := { program := "ytdoobdfanalnbaa", sum := "1c63d448765df3d30c312c7a050fa572fffe784e05eed8e5dddf245cc061eb49", func := "anceps/ancepslaw10.RouteAll", spec := "routeAll", unfollowed := true, recurses := true, apart := false }
def RouteAllSaid : Prop := routeAllRow.holds Try.pinned (OpenSpec.ofChange routeAllSpec)

/-- ITS FALSE NEIGHBOUR: 'it returns false'. Refute it at one input. -/
def routeAllWrong : ChangeSpec := { name := "routeAll", fn := fun _ => fun
  | [d1, d2] => { results := [.lit (.bool false)], args := [d1, d2] }
  | _ => none }
def RouteAllWrongFalsely : Prop := routeAllRow.holds Try.pinned (OpenSpec.ofChange routeAllWrong)

/-- 'ancepslaw10.RouteRises': WHATEVER THE INPUT: true; the input reads as it did. -/
def routeRisesSpec : ChangeSpec := { name := "routeRises", fn := fun _ => fun
  | [d1, d2, d3] => { results := [.lit (.bool true)], args := [d1, d2, d3] }
  | _ => none }
def routeRisesRow : OpenClaim := { program := "ytdoobdfanalnbaa", sum := "1c63d448765df3d30c312c7a050fa572fffe784e05eed8e5dddf245cc061eb49", func := "anceps/ancepslaw10.RouteRises", spec := "routeRises", unfollowed := true, recurses := true, apart := false }
def RouteRisesSaid : Prop := routeRisesRow.holds Try.pinned (OpenSpec.ofChange routeRisesSpec)

/-- ITS FALSE NEIGHBOUR: 'it returns false'. Refute it at one input. -/
def routeRisesWrong : ChangeSpec := { name := "routeRises", fn := fun _ => fun
  | [d1, d2, d3] => { results := [.lit (.bool false)], args := [d1, d2, d3] }
  | _ => none }
def RouteRisesWrongFalsely : Prop := routeRisesRow.holds Try.pinned (OpenSpec.ofChange routeRisesWrong)

/-- 'ancepstop.TopEither': WHATEVER THE INPUT: true; the input reads as it did. -/
def topEitherSpec : ChangeSpec := { name := "topEither", fn := fun _ => fun
  | [d1, d2, d3] => { results := [.lit (.bool true)], args := [d1, d2, d3] }
  | _ => none }
def topEitherRow : OpenClaim := { program := "ytdoobdfanalnbaa", sum := "1c63d448765df3d30c312c7a050fa572fffe784e05eed8e5dddf245cc061eb49", func := "anceps/ancepstop.TopEither", spec := "topEither", unfollowed := true, recurses := true, apart := false }
def TopEitherSaid : Prop := topEitherRow.holds Try.pinned (OpenSpec.ofChange topEitherSpec)

/-- ITS FALSE NEIGHBOUR: 'it returns false'. Refute it at one input. -/
def topEitherWrong : ChangeSpec := { name := "topEither", fn := fun _ => fun
  | [d1, d2, d3] => { results := [.lit (.bool false)], args := [d1, d2, d3] }
  | _ => none }
def TopEitherWrongFalsely : Prop := topEitherRow.holds Try.pinned (OpenSpec.ofChange topEitherWrong)

/-- 'ancepstop.TopListed': WHATEVER THE INPUT: true; the input reads as it did. -/
def topListedSpec : ChangeSpec := { name := "topListed", fn := fun _ => fun
  | [d1, d2, d3] => { results := [.lit (.bool true)], args := [d1, d2, d3] }
  | _ => none }
def topListedRow : OpenClaim := { program := "ytdoobdfanalnbaa", sum := "1c63d448765df3d30c312c7a050fa572fffe784e05eed8e5dddf245cc061eb49", func := "anceps/ancepstop.TopListed", spec := "topListed", unfollowed := true, recurses := true, apart := false }
def TopListedSaid : Prop := topListedRow.holds Try.pinned (OpenSpec.ofChange topListedSpec)

/-- ITS FALSE NEIGHBOUR: 'it returns false'. Refute it at one input. -/
def topListedWrong : ChangeSpec := { name := "topListed", fn := fun _ => fun
  | [d1, d2, d3] => { results := [.lit (.bool false)], args := [d1, d2, d3] }
  | _ => none }
def TopListedWrongFalsely : Prop := topListedRow.holds Try.pinned (OpenSpec.ofChange topListedWrong)

/-- 'ancepstop.TopReversed': WHATEVER THE INPUT: true; the input reads as it did. -/
def topReversedSpec : ChangeSpec := { name := "topReversed", fn := fun _ => fun
  | [d1, d2, d3] => { results := [.lit (.bool true)], args := [d1, d2, d3] }
  | _ => none }
def topReversedRow : OpenClaim := { program := "ytdoobdfanalnbaa", sum := "1c63d448765df3d30c312c7a050fa572fffe784e05eed8e5dddf245cc061eb49", func := "anceps/ancepstop.TopReversed", spec := "topReversed", unfollowed := true, recurses := true, apart := false }
def TopReversedSaid : Prop := topReversedRow.holds Try.pinned (OpenSpec.ofChange topReversedSpec)

/-- ITS FALSE NEIGHBOUR: 'it returns false'. Refute it at one input. -/
def topReversedWrong : ChangeSpec := { name := "topReversed", fn := fun _ => fun
  | [d1, d2, d3] => { results := [.lit (.bool false)], args := [d1, d2, d3] }
  | _ => none }
def TopReversedWrongFalsely : Prop := topReversedRow.holds Try.pinned (OpenSpec.ofChange topReversedWrong)

/- THE SECOND FORM. 'bulk': how many values and letters a reading holds, each counted each time it is reached (what is shared counts as often as it is met; a slice's spare places count too). A statement '..UptoSaid' is the law's where the arguments, and the package variables that the reading takes, are together of bulk at most 1048576: NARROWER than '..Said'. Prove '..Said' where nothing that the law and all that it calls make is longer than what came in: it says more and counts as full. Else prove '..UptoSaid'. A law counts once. -/
mutual
def uptoBulk {H : Type} : DataW H → Nat
  | .lit (.string bytes) => bytes.length + 1
  | .lit _ => 1
  | .nil => 1
  | .ptr d => uptoBulk d + 1
  | .slice elems spare => uptoBulkAll elems + uptoBulkAll spare + 1
  | .agg parts => uptoBulkAll parts + 1
  | .iface _ d => uptoBulk d + 1
  | .map entries => uptoBulkEntries entries + 1
  | .held _ => 1
def uptoBulkAll {H : Type} : List (DataW H) → Nat
  | [] => 0
  | d :: r => uptoBulk d + uptoBulkAll r
def uptoBulkEntries {H : Type} : List (Lit × DataW H) → Nat
  | [] => 0
  | x :: r => uptoBulkEntry x + uptoBulkEntries r
def uptoBulkEntry {H : Type} : Lit × DataW H → Nat
  | (.string bytes, d) => bytes.length + uptoBulk d + 1
  | (_, d) => uptoBulk d + 1
 end
def uptoSmall : (H : Type) → List (DataW H) → Bool := fun _ ds => decide (uptoBulkAll ds ≤ 1048576)
def OpenSpec.upto (s : _root_.Go.ChangeSpec) : _root_.Go.OpenSpec := { _root_.Go.OpenSpec.ofChange s with cond := some uptoSmall }

/-- 'ancepslaw09.DagTrim', WHERE WHAT IT READS IS OF BULK AT MOST 1048576: true; the input reads as it did. -/
def dagTrimUptoRow : OpenClaim := { program := "ytdoobdfanalnbaa", sum := "1c63d448765df3d30c312c7a050fa572fffe784e05eed8e5dddf245cc061eb49", func := "anceps/ancepslaw09.DagTrim", spec := "dagTrim", unfollowed := true, recurses := true, apart := false, narrowed := true }
def DagTrimUptoSaid : Prop := dagTrimUptoRow.holds Try.pinned (OpenSpec.upto dagTrimSpec)

/-- 'ancepslaw09.DagKeeps', WHERE WHAT IT READS IS OF BULK AT MOST 1048576: true; the input reads as it did. -/
def dagKeepsUptoRow : OpenClaim := { program := "ytdoobdfanalnbaa", sum := "1c63d448765df3d30c312c7a050fa572fffe784e05eed8e5dddf245cc061eb49", func := "anceps/ancepslaw09.DagKeeps", spec := "dagKeeps", unfollowed := true, recurses := true, apart := false, narrowed := true }
def DagKeepsUptoSaid : Prop := dagKeepsUptoRow.holds Try.pinned (OpenSpec.upto dagKeepsSpec)

/-- 'ancepslaw10.RouteBest', WHERE WHAT IT READS IS OF BULK AT MOST 1048576: true; the input reads as it did. -/
def routeBestUptoRow : OpenClaim := { program := "ytdoobdfanalnbaa", sum := "1c63d448765df3d30c312c7a050fa572fffe784e05eed8e5dddf245cc061eb49", func := "anceps/ancepslaw10.RouteBest", spec := "routeBest", unfollowed := true, recurses := true, apart := false, narrowed := true }
def RouteBestUptoSaid : Prop := routeBestUptoRow.holds Try.pinned (OpenSpec.upto routeBestSpec)

/-- 'ancepslaw10.RouteChecks', WHERE WHAT IT READS IS OF BULK AT MOST 1048576: true; the input reads as it did. -/
def routeChecksUptoRow : OpenClaim := { program := "ytdoobdfanalnbaa", sum := "1c63d448765df3d30c312c7a050fa572fffe784e05eed8e5dddf245cc061eb49", func := "anceps/ancepslaw10.RouteChecks", spec := "routeChecks", unfollowed := true, recurses := true, apart := false, narrowed := true }
def RouteChecksUptoSaid : Prop := routeChecksUptoRow.holds Try.pinned (OpenSpec.upto routeChecksSpec)

/-- 'ancepslaw10.RouteList', WHERE WHAT IT READS IS OF BULK AT MOST 1048576: true; the input reads as it did. -/
def routeListUptoRow : OpenClaim := { program := "ytdoobdfanalnbaa", sum := "1c63d448765df3d30c312c7a050fa572fffe784e05eed8e5dddf245cc061eb49", func := "anceps/ancepslaw10.RouteList", spec := "routeList", unfollowed := true, recurses := true, apart := false, narrowed := true }
def RouteListUptoSaid : Prop := routeListUptoRow.holds Try.pinned (OpenSpec.upto routeListSpec)

/-- 'ancepslaw10.RouteNext', WHERE WHAT IT READS IS OF BULK AT MOST 1048576: true; the input reads as it did. -/
def routeNextUptoRow : OpenClaim := { program := "ytdoobdfanalnbaa", sum := "1c63d448765df3d30c312c7a050fa572fffe784e05eed8e5dddf245cc061eb49", func := "anceps/ancepslaw10.RouteNext", spec := "routeNext", unfollowed := true, recurses := true, apart := false, narrowed := true }
def RouteNextUptoSaid : Prop := routeNextUptoRow.holds Try.pinned (OpenSpec.upto routeNextSpec)

/-- 'ancepslaw10.RouteWithin', WHERE WHAT IT READS IS OF BULK AT MOST 1048576: true; the input reads as it did. -/
def routeWithinUptoRow : OpenClaim := { program := "ytdoobdfanalnbaa", sum := "1c63d448765df3d30c312c7a050fa572fffe784e05eed8e5dddf245cc061eb49", func := "anceps/ancepslaw10.RouteWithin", spec := "routeWithin", unfollowed := true, recurses := true, apart := false, narrowed := true }
def RouteWithinUptoSaid : Prop := routeWithinUptoRow.holds Try.pinned (OpenSpec.upto routeWithinSpec)

/-- 'ancepslaw10.RouteAll', WHERE WHAT IT READS IS OF BULK AT MOST 1048576: true; the input reads as it did. -/
def routeAllUptoRow : OpenClaim := { program := "ytdoobdfanalnbaa", sum := "1c63d448765df3d30c312c7a050fa572fffe784e05eed8e5dddf245cc061eb49", func := "anceps/ancepslaw10.RouteAll", spec := "routeAll", unfollowed := true, recurses := true, apart := false, narrowed := true }
def RouteAllUptoSaid : Prop := routeAllUptoRow.holds Try.pinned (OpenSpec.upto routeAllSpec)

/-- 'ancepslaw10.RouteRises', WHERE WHAT IT READS IS OF BULK AT MOST 1048576: true; the input reads as it did. -/
def routeRisesUptoRow : OpenClaim := { program := "ytdoobdfanalnbaa", sum := "1c63d448765df3d30c312c7a050fa572fffe784e05eed8e5dddf245cc061eb49", func := "anceps/ancepslaw10.RouteRises", spec := "routeRises", unfollowed := true, recurses := true, apart := false, narrowed := true }
def RouteRisesUptoSaid : Prop := routeRisesUptoRow.holds Try.pinned (OpenSpec.upto routeRisesSpec)

/-- 'ancepstop.TopEither', WHERE WHAT IT READS IS OF BULK AT MOST 1048576: true; the input reads as it did. -/
def topEitherUptoRow : OpenClaim := { program := "ytdoobdfanalnbaa", sum := "1c63d448765df3d30c312c7a050fa572fffe784e05eed8e5dddf245cc061eb49", func := "anceps/ancepstop.TopEither", spec := "topEither", unfollowed := true, recurses := true, apart := false, narrowed := true }
def TopEitherUptoSaid : Prop := topEitherUptoRow.holds Try.pinned (OpenSpec.upto topEitherSpec)

/-- 'ancepstop.TopListed', WHERE WHAT IT READS IS OF BULK AT MOST 1048576: true; the input reads as it did. -/
def topListedUptoRow : OpenClaim := { program := "ytdoobdfanalnbaa", sum := "1c63d448765df3d30c312c7a050fa572fffe784e05eed8e5dddf245cc061eb49", func := "anceps/ancepstop.TopListed", spec := "topListed", unfollowed := true, recurses := true, apart := false, narrowed := true }
def TopListedUptoSaid : Prop := topListedUptoRow.holds Try.pinned (OpenSpec.upto topListedSpec)

/-- 'ancepstop.TopReversed', WHERE WHAT IT READS IS OF BULK AT MOST 1048576: true; the input reads as it did. -/
def topReversedUptoRow : OpenClaim := { program := "ytdoobdfanalnbaa", sum := "1c63d448765df3d30c312c7a050fa572fffe784e05eed8e5dddf245cc061eb49", func := "anceps/ancepstop.TopReversed", spec := "topReversed", unfollowed := true, recurses := true, apart := false, narrowed := true }
def TopReversedUptoSaid : Prop := topReversedUptoRow.holds Try.pinned (OpenSpec.upto topReversedSpec)

end Rows
end Go.Proofs.Ytdoobdfanalnbaa
