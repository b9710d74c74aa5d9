/-
  No cell of these rows narrows 'for every input' (looked for: loops, veiled, ifaces, maps, wideKeys, modest, calm, conditions, laid).
  DERIVED. THE GIVEN ROWS OF THIS SEAT. 12 by the template 'for every input the law returns true; each argument reads behind the call as it read before'; 0 by the template 'total and deterministic' (their statements: YtmnlgeglmkdecaaTotals.lean).
  GIVEN WITH THE SEED: the statements are not yours to turn. If you find one false, say at which input.
  Laid BY PROGRAM, IN A SANDBOX (cutbox-rows.mjs): the forced cells as the released guide's own fill.sh prints them over the translation 03ab3ea6a785e617… (all of the seat's roots in one cut). By AI agents, Wed Nov 11 2026. No macro, syntax, notation, axiom, sorry.
-/
import Derived.Test.YtmnlgeglmkdecaaChecked
import GoSem.Claim
import GoSem.ClaimJoined
import GoSem.ClaimMapViews
import Derived.JoinedTies
import Derived.KernelRfl
namespace Go.Proofs.Ytmnlgeglmkdecaa
/- THE CELL 'sum', in the pinned program and in every row, IS THE sha256 OF THE DUMP (.gsa) THAT YtmnlgeglmkdecaaProg.lean LOADS. Nothing in Lean hashes anything: it is a label: what it is worth is what the hold of that sum in a sandbox is worth. -/
noncomputable def Try.pinned : Pinned := { name := "ytmnlgeglmkdecaa", sum := "03ab3ea6a785e61766019b29655bbdaa2cec98dd0b5a934d0e48e833d2168c06", checked := Try.checked }
namespace Rows
def none {H : Type} : Left H := { results := [], args := [] }

/-- 'guidewaylaw01.LineLines': WHATEVER THE INPUT: true; the input reads as it did. -/
def lineLinesSpec : ChangeSpec := { name := "lineLines", fn := fun _ => fun
  | [d1, d2] => { results := [.lit (.bool true)], args := [d1, d2] }
  | _ => none }
def lineLinesRow : OpenClaim := { program := "ytmnlgeglmkdecaa", sum := "03ab3ea6a785e61766019b29655bbdaa2cec98dd0b5a934d0e48e833d2168c06", func := "guideway/guidewaylaw01.LineLines", spec := "lineLines", unfollowed := true, recurses := true, named := ["math/bits.divideError", "math/bits.overflowError"], apart := false }
def LineLinesSaid : Prop := lineLinesRow.holds Try.pinned (OpenSpec.ofChange lineLinesSpec)

/-- ITS FALSE NEIGHBOUR: 'it returns false'. Refute it at one input. -/
def lineLinesWrong : ChangeSpec := { name := "lineLines", fn := fun _ => fun
  | [d1, d2] => { results := [.lit (.bool false)], args := [d1, d2] }
  | _ => none }
def LineLinesWrongFalsely : Prop := lineLinesRow.holds Try.pinned (OpenSpec.ofChange lineLinesWrong)

/-- 'guidewaylaw01.LinePlaces': WHATEVER THE INPUT: true; the input reads as it did. -/
def linePlacesSpec : ChangeSpec := { name := "linePlaces", fn := fun _ => fun
  | [d1, d2] => { results := [.lit (.bool true)], args := [d1, d2] }
  | _ => none }
def linePlacesRow : OpenClaim := { program := "ytmnlgeglmkdecaa", sum := "03ab3ea6a785e61766019b29655bbdaa2cec98dd0b5a934d0e48e833d2168c06", func := "guideway/guidewaylaw01.LinePlaces", spec := "linePlaces", unfollowed := true, recurses := true, named := ["math/bits.divideError", "math/bits.overflowError"], apart := false }
def LinePlacesSaid : Prop := linePlacesRow.holds Try.pinned (OpenSpec.ofChange linePlacesSpec)

/-- ITS FALSE NEIGHBOUR: 'it returns false'. Refute it at one input. -/
def linePlacesWrong : ChangeSpec := { name := "linePlaces", fn := fun _ => fun
  | [d1, d2] => { results := [.lit (.bool false)], args := [d1, d2] }
  | _ => none }
def LinePlacesWrongFalsely : Prop := linePlacesRow.holds Try.pinned (OpenSpec.ofChange linePlacesWrong)

/-- 'guidewaylaw01.LineBetween': WHATEVER THE INPUT: true; the input reads as it did. -/
def lineBetweenSpec : ChangeSpec := { name := "lineBetween", fn := fun _ => fun
  | [d1, d2] => { results := [.lit (.bool true)], args := [d1, d2] }
  | _ => none }
def lineBetweenRow : OpenClaim := { program := "ytmnlgeglmkdecaa", sum := "03ab3ea6a785e61766019b29655bbdaa2cec98dd0b5a934d0e48e833d2168c06", func := "guideway/guidewaylaw01.LineBetween", spec := "lineBetween", unfollowed := true, recurses := true, named := ["math/bits.divideError", "math/bits.overflowError"], apart := false }
def LineBetweenSaid : Prop := lineBetweenRow.holds Try.pinned (OpenSpec.ofChange lineBetweenSpec)

/-- ITS FALSE NEIGHBOUR: 'it returns false'. Refute it at one input. -/
def lineBetweenWrong : ChangeSpec := { name := "lineBetween", fn := fun _ => fun
  | [d1, d2] => { results := [.lit (.bool false)], args := [d1, d2] }
  | _ => none }
def LineBetweenWrongFalsely : Prop := lineBetweenRow.holds Try.pinned (OpenSpec.ofChange lineBetweenWrong)

/-- 'guidewaylaw01.LineGradients': WHATEVER THE INPUT: true; the input reads as it did. -/
def lineGradientsSpec : ChangeSpec := { name := "lineGradients", fn := fun _ => fun
  | [d1, d2] => { results := [.lit (.bool true)], args := [d1, d2] }
  | _ => none }
def lineGradientsRow : OpenClaim := { program := "ytmnlgeglmkdecaa", sum := "03ab3ea6a785e61766019b29655bbdaa2cec98dd0b5a934d0e48e833d2168c06", func := "guideway/guidewaylaw01.LineGradients", spec := "lineGradients", unfollowed := true, recurses := true, named := ["math/bits.divideError", "math/bits.overflowError"], apart := false }
def LineGradientsSaid : Prop := lineGradientsRow.holds Try.pinned (OpenSpec.ofChange lineGradientsSpec)

/-- ITS FALSE NEIGHBOUR: 'it returns false'. Refute it at one input. -/
def lineGradientsWrong : ChangeSpec := { name := "lineGradients", fn := fun _ => fun
  | [d1, d2] => { results := [.lit (.bool false)], args := [d1, d2] }
  | _ => none }
def LineGradientsWrongFalsely : Prop := lineGradientsRow.holds Try.pinned (OpenSpec.ofChange lineGradientsWrong)

/-- 'guidewaylaw01.LineLimits': WHATEVER THE INPUT: true; the input reads as it did. -/
def lineLimitsSpec : ChangeSpec := { name := "lineLimits", fn := fun _ => fun
  | [d1, d2, d3] => { results := [.lit (.bool true)], args := [d1, d2, d3] }
  | _ => none }
def lineLimitsRow : OpenClaim := { program := "ytmnlgeglmkdecaa", sum := "03ab3ea6a785e61766019b29655bbdaa2cec98dd0b5a934d0e48e833d2168c06", func := "guideway/guidewaylaw01.LineLimits", spec := "lineLimits", unfollowed := true, recurses := true, named := ["math/bits.divideError", "math/bits.overflowError"], apart := false }
def LineLimitsSaid : Prop := lineLimitsRow.holds Try.pinned (OpenSpec.ofChange lineLimitsSpec)

/-- ITS FALSE NEIGHBOUR: 'it returns false'. Refute it at one input. -/
def lineLimitsWrong : ChangeSpec := { name := "lineLimits", fn := fun _ => fun
  | [d1, d2, d3] => { results := [.lit (.bool false)], args := [d1, d2, d3] }
  | _ => none }
def LineLimitsWrongFalsely : Prop := lineLimitsRow.holds Try.pinned (OpenSpec.ofChange lineLimitsWrong)

/-- 'guidewaylaw01.LinePermitted': WHATEVER THE INPUT: true; the input reads as it did. -/
def linePermittedSpec : ChangeSpec := { name := "linePermitted", fn := fun _ => fun
  | [d1, d2, d3] => { results := [.lit (.bool true)], args := [d1, d2, d3] }
  | _ => none }
def linePermittedRow : OpenClaim := { program := "ytmnlgeglmkdecaa", sum := "03ab3ea6a785e61766019b29655bbdaa2cec98dd0b5a934d0e48e833d2168c06", func := "guideway/guidewaylaw01.LinePermitted", spec := "linePermitted", unfollowed := true, recurses := true, named := ["math/bits.divideError", "math/bits.overflowError"], apart := false }
def LinePermittedSaid : Prop := linePermittedRow.holds Try.pinned (OpenSpec.ofChange linePermittedSpec)

/-- ITS FALSE NEIGHBOUR: 'it returns false'. Refute it at one input. -/
def linePermittedWrong : ChangeSpec := { name := "linePermitted", fn := fun _ => fun
  | [d1, d2, d3] => { results := [.lit (.bool false)], args := [d1, d2, d3] }
  | _ => none }
def LinePermittedWrongFalsely : Prop := linePermittedRow.holds Try.pinned (OpenSpec.ofChange linePermittedWrong)

/-- 'guidewaylaw01.LineDeviations': WHATEVER THE INPUT: true; the input reads as it did. -/
def lineDeviationsSpec : ChangeSpec := { name := "lineDeviations", fn := fun _ => fun
  | [d1, d2, d3] => { results := [.lit (.bool true)], args := [d1, d2, d3] }
  | _ => none }
def lineDeviationsRow : OpenClaim := { program := "ytmnlgeglmkdecaa", sum := "03ab3ea6a785e61766019b29655bbdaa2cec98dd0b5a934d0e48e833d2168c06", func := "guideway/guidewaylaw01.LineDeviations", spec := "lineDeviations", unfollowed := true, recurses := true, named := ["math/bits.divideError", "math/bits.overflowError"], apart := false }
def LineDeviationsSaid : Prop := lineDeviationsRow.holds Try.pinned (OpenSpec.ofChange lineDeviationsSpec)

/-- ITS FALSE NEIGHBOUR: 'it returns false'. Refute it at one input. -/
def lineDeviationsWrong : ChangeSpec := { name := "lineDeviations", fn := fun _ => fun
  | [d1, d2, d3] => { results := [.lit (.bool false)], args := [d1, d2, d3] }
  | _ => none }
def LineDeviationsWrongFalsely : Prop := lineDeviationsRow.holds Try.pinned (OpenSpec.ofChange lineDeviationsWrong)

/-- 'guidewaylaw01.LinePoses': WHATEVER THE INPUT: true; the input reads as it did. -/
def linePosesSpec : ChangeSpec := { name := "linePoses", fn := fun _ => fun
  | [d1, d2, d3] => { results := [.lit (.bool true)], args := [d1, d2, d3] }
  | _ => none }
def linePosesRow : OpenClaim := { program := "ytmnlgeglmkdecaa", sum := "03ab3ea6a785e61766019b29655bbdaa2cec98dd0b5a934d0e48e833d2168c06", func := "guideway/guidewaylaw01.LinePoses", spec := "linePoses", unfollowed := true, recurses := true, named := ["math/bits.divideError", "math/bits.overflowError"], apart := false }
def LinePosesSaid : Prop := linePosesRow.holds Try.pinned (OpenSpec.ofChange linePosesSpec)

/-- ITS FALSE NEIGHBOUR: 'it returns false'. Refute it at one input. -/
def linePosesWrong : ChangeSpec := { name := "linePoses", fn := fun _ => fun
  | [d1, d2, d3] => { results := [.lit (.bool false)], args := [d1, d2, d3] }
  | _ => none }
def LinePosesWrongFalsely : Prop := linePosesRow.holds Try.pinned (OpenSpec.ofChange linePosesWrong)

/-- 'guidewaylaw01.LineClearAll': WHATEVER THE INPUT: true; the input reads as it did. -/
def lineClearAllSpec : ChangeSpec := { name := "lineClearAll", fn := fun _ => fun
  | [d1, d2, d3] => { results := [.lit (.bool true)], args := [d1, d2, d3] }
  | _ => none }
def lineClearAllRow : OpenClaim := { program := "ytmnlgeglmkdecaa", sum := "03ab3ea6a785e61766019b29655bbdaa2cec98dd0b5a934d0e48e833d2168c06", func := "guideway/guidewaylaw01.LineClearAll", spec := "lineClearAll", unfollowed := true, recurses := true, named := ["math/bits.divideError", "math/bits.overflowError"], apart := false }
def LineClearAllSaid : Prop := lineClearAllRow.holds Try.pinned (OpenSpec.ofChange lineClearAllSpec)

/-- ITS FALSE NEIGHBOUR: 'it returns false'. Refute it at one input. -/
def lineClearAllWrong : ChangeSpec := { name := "lineClearAll", fn := fun _ => fun
  | [d1, d2, d3] => { results := [.lit (.bool false)], args := [d1, d2, d3] }
  | _ => none }
def LineClearAllWrongFalsely : Prop := lineClearAllRow.holds Try.pinned (OpenSpec.ofChange lineClearAllWrong)

/-- 'guidewaylaw01.LineStraight': WHATEVER THE INPUT: true; the input reads as it did. -/
def lineStraightSpec : ChangeSpec := { name := "lineStraight", fn := fun _ => fun
  | [d1, d2, d3] => { results := [.lit (.bool true)], args := [d1, d2, d3] }
  | _ => none }
def lineStraightRow : OpenClaim := { program := "ytmnlgeglmkdecaa", sum := "03ab3ea6a785e61766019b29655bbdaa2cec98dd0b5a934d0e48e833d2168c06", func := "guideway/guidewaylaw01.LineStraight", spec := "lineStraight", unfollowed := true, recurses := true, named := ["math/bits.divideError", "math/bits.overflowError"], apart := false }
def LineStraightSaid : Prop := lineStraightRow.holds Try.pinned (OpenSpec.ofChange lineStraightSpec)

/-- ITS FALSE NEIGHBOUR: 'it returns false'. Refute it at one input. -/
def lineStraightWrong : ChangeSpec := { name := "lineStraight", fn := fun _ => fun
  | [d1, d2, d3] => { results := [.lit (.bool false)], args := [d1, d2, d3] }
  | _ => none }
def LineStraightWrongFalsely : Prop := lineStraightRow.holds Try.pinned (OpenSpec.ofChange lineStraightWrong)

/-- 'guidewaylaw01.LineSurveys': WHATEVER THE INPUT: true; the input reads as it did. -/
def lineSurveysSpec : ChangeSpec := { name := "lineSurveys", fn := fun _ => fun
  | [d1, d2] => { results := [.lit (.bool true)], args := [d1, d2] }
  | _ => none }
def lineSurveysRow : OpenClaim := { program := "ytmnlgeglmkdecaa", sum := "03ab3ea6a785e61766019b29655bbdaa2cec98dd0b5a934d0e48e833d2168c06", func := "guideway/guidewaylaw01.LineSurveys", spec := "lineSurveys", unfollowed := true, recurses := true, named := ["math/bits.divideError", "math/bits.overflowError"], apart := false }
def LineSurveysSaid : Prop := lineSurveysRow.holds Try.pinned (OpenSpec.ofChange lineSurveysSpec)

/-- ITS FALSE NEIGHBOUR: 'it returns false'. Refute it at one input. -/
def lineSurveysWrong : ChangeSpec := { name := "lineSurveys", fn := fun _ => fun
  | [d1, d2] => { results := [.lit (.bool false)], args := [d1, d2] }
  | _ => none }
def LineSurveysWrongFalsely : Prop := lineSurveysRow.holds Try.pinned (OpenSpec.ofChange lineSurveysWrong)

/-- 'guidewaylaw01.LineTurned': WHATEVER THE INPUT: true; the input reads as it did. -/
def lineTurnedSpec : ChangeSpec := { name := "lineTurned", fn := fun _ => fun
  | [d1, d2] => { results := [.lit (.bool true)], args := [d1, d2] }
  | _ => none }
def lineTurnedRow : OpenClaim := { program := "ytmnlgeglmkdecaa", sum := "03ab3ea6a785e61766019b29655bbdaa2cec98dd0b5a934d0e48e833d2168c06", func := "guideway/guidewaylaw01.LineTurned", spec := "lineTurned", unfollowed := true, recurses := true, named := ["math/bits.divideError", "math/bits.overflowError"], apart := false }
def LineTurnedSaid : Prop := lineTurnedRow.holds Try.pinned (OpenSpec.ofChange lineTurnedSpec)

/-- ITS FALSE NEIGHBOUR: 'it returns false'. Refute it at one input. -/
def lineTurnedWrong : ChangeSpec := { name := "lineTurned", fn := fun _ => fun
  | [d1, d2] => { results := [.lit (.bool false)], args := [d1, d2] }
  | _ => none }
def LineTurnedWrongFalsely : Prop := lineTurnedRow.holds Try.pinned (OpenSpec.ofChange lineTurnedWrong)

/- THE SECOND FORM. 'bulk': how many values and letters a reading holds, each counted each time it is reached (what is shared counts as often as it is met; a slice's spare places count too). A statement '..UptoSaid' is the law's where the arguments, and the package variables that the reading takes, are together of bulk at most 1048576: NARROWER than '..Said'. Prove '..Said' where nothing that the law and all that it calls make is longer than what came in: it says more and counts as full. Else prove '..UptoSaid'. A law counts once. -/
mutual
def uptoBulk {H : Type} : DataW H → Nat
  | .lit (.string bytes) => bytes.length + 1
  | .lit _ => 1
  | .nil => 1
  | .ptr d => uptoBulk d + 1
  | .slice elems spare => uptoBulkAll elems + uptoBulkAll spare + 1
  | .agg parts => uptoBulkAll parts + 1
  | .iface _ d => uptoBulk d + 1
  | .map entries => uptoBulkEntries entries + 1
  | .held _ => 1
def uptoBulkAll {H : Type} : List (DataW H) → Nat
  | [] => 0
  | d :: r => uptoBulk d + uptoBulkAll r
def uptoBulkEntries {H : Type} : List (Lit × DataW H) → Nat
  | [] => 0
  | x :: r => uptoBulkEntry x + uptoBulkEntries r
def uptoBulkEntry {H : Type} : Lit × DataW H → Nat
  | (.string bytes, d) => bytes.length + uptoBulk d + 1
  | (_, d) => uptoBulk d + 1
 end
def uptoSmall : (H : Type) → List (DataW H) → Bool := fun _ ds => decide (uptoBulkAll ds ≤ 1048576)
def OpenSpec.upto (s : _root_.Go.ChangeSpec) : _root_.Go.OpenSpec := { _root_.Go.OpenSpec.ofChange s with cond := some uptoSmall }

/-- 'guidewaylaw01.LineLines', WHERE WHAT IT READS IS OF BULK AT MOST 1048576: true; the input reads as it did. -/
def lineLinesUptoRow : OpenClaim := { program := "ytmnlgeglmkdecaa", sum := "03ab3ea6a785e61766019b29655bbdaa2cec98dd0b5a934d0e48e833d2168c06", func := "guideway/guidewaylaw01.LineLines", spec := "lineLines", unfollowed := true, recurses := true, named := ["math/bits.divideError", "math/bits.overflowError"], apart := false, narrowed := true }
def LineLinesUptoSaid : Prop := lineLinesUptoRow.holds Try.pinned (OpenSpec.upto lineLinesSpec)

/-- 'guidewaylaw01.LinePlaces', WHERE WHAT IT READS IS OF BULK AT MOST 1048576: true; the input reads as it did. -/
def linePlacesUptoRow : OpenClaim := { program := "ytmnlgeglmkdecaa", sum := "03ab3ea6a785e61766019b29655bbdaa2cec98dd0b5a934d0e48e833d2168c06", func := "guideway/guidewaylaw01.LinePlaces", spec := "linePlaces", unfollowed := true, recurses := true, named := ["math/bits.divideError", "math/bits.overflowError"], apart := false, narrowed := true }
def LinePlacesUptoSaid : Prop := linePlacesUptoRow.holds Try.pinned (OpenSpec.upto linePlacesSpec)

/-- 'guidewaylaw01.LineBetween', WHERE WHAT IT READS IS OF BULK AT MOST 1048576: true; the input reads as it did. -/
def lineBetweenUptoRow : OpenClaim := { program := "ytmnlgeglmkdecaa", sum := "03ab3ea6a785e61766019b29655bbdaa2cec98dd0b5a934d0e48e833d2168c06", func := "guideway/guidewaylaw01.LineBetween", spec := "lineBetween", unfollowed := true, recurses := true, named := ["math/bits.divideError", "math/bits.overflowError"], apart := false, narrowed := true }
def LineBetweenUptoSaid : Prop := lineBetweenUptoRow.holds Try.pinned (OpenSpec.upto lineBetweenSpec)

/-- 'guidewaylaw01.LineGradients', WHERE WHAT IT READS IS OF BULK AT MOST 1048576: true; the input reads as it did. -/
def lineGradientsUptoRow : OpenClaim := { program := "ytmnlgeglmkdecaa", sum := "03ab3ea6a785e61766019b29655bbdaa2cec98dd0b5a934d0e48e833d2168c06", func := "guideway/guidewaylaw01.LineGradients", spec := "lineGradients", unfollowed := true, recurses := true, named := ["math/bits.divideError", "math/bits.overflowError"], apart := false, narrowed := true }
def LineGradientsUptoSaid : Prop := lineGradientsUptoRow.holds Try.pinned (OpenSpec.upto lineGradientsSpec)

/-- 'guidewaylaw01.LineLimits', WHERE WHAT IT READS IS OF BULK AT MOST 1048576: true; the input reads as it did. -/
def lineLimitsUptoRow : OpenClaim := { program := "ytmnlgeglmkdecaa", sum := "03ab3ea6a785e61766019b29655bbdaa2cec98dd0b5a934d0e48e833d2168c06", func := "guideway/guidewaylaw01.LineLimits", spec := "lineLimits", unfollowed := true, recurses := true, named := ["math/bits.divideError", "math/bits.overflowError"], apart := false, narrowed := true }
def LineLimitsUptoSaid : Prop := lineLimitsUptoRow.holds Try.pinned (OpenSpec.upto lineLimitsSpec)

/-- 'guidewaylaw01.LinePermitted', WHERE WHAT IT READS IS OF BULK AT MOST 1048576: true; the input reads as it did. -/
def linePermittedUptoRow : OpenClaim := { program := "ytmnlgeglmkdecaa", sum := "03ab3ea6a785e61766019b29655bbdaa2cec98dd0b5a934d0e48e833d2168c06", func := "guideway/guidewaylaw01.LinePermitted", spec := "linePermitted", unfollowed := true, recurses := true, named := ["math/bits.divideError", "math/bits.overflowError"], apart := false, narrowed := true }
def LinePermittedUptoSaid : Prop := linePermittedUptoRow.holds Try.pinned (OpenSpec.upto linePermittedSpec)

/-- 'guidewaylaw01.LineDeviations', WHERE WHAT IT READS IS OF BULK AT MOST 1048576: true; the input reads as it did. -/
def lineDeviationsUptoRow : OpenClaim := { program := "ytmnlgeglmkdecaa", sum := "03ab3ea6a785e61766019b29655bbdaa2cec98dd0b5a934d0e48e833d2168c06", func := "guideway/guidewaylaw01.LineDeviations", spec := "lineDeviations", unfollowed := true, recurses := true, named := ["math/bits.divideError", "math/bits.overflowError"], apart := false, narrowed := true }
def LineDeviationsUptoSaid : Prop := lineDeviationsUptoRow.holds Try.pinned (OpenSpec.upto lineDeviationsSpec)

/-- 'guidewaylaw01.LinePoses', WHERE WHAT IT READS IS OF BULK AT MOST 1048576: true; the input reads as it did. -/
def linePosesUptoRow : OpenClaim := { program := "ytmnlgeglmkdecaa", sum := "03ab3ea6a785e61766019b29655bbdaa2cec98dd0b5a934d0e48e833d2168c06", func := "guideway/guidewaylaw01.LinePoses", spec := "linePoses", unfollowed := true, recurses := true, named := ["math/bits.divideError", "math/bits.overflowError"], apart := false, narrowed := true }
def LinePosesUptoSaid : Prop := linePosesUptoRow.holds Try.pinned (OpenSpec.upto linePosesSpec)

/-- 'guidewaylaw01.LineClearAll', WHERE WHAT IT READS IS OF BULK AT MOST 1048576: true; the input reads as it did. -/
def lineClearAllUptoRow : OpenClaim := { program := "ytmnlgeglmkdecaa", sum := "03ab3ea6a785e61766019b29655bbdaa2cec98dd0b5a934d0e48e833d2168c06", func := "guideway/guidewaylaw01.LineClearAll", spec := "lineClearAll", unfollowed := true, recurses := true, named := ["math/bits.divideError", "math/bits.overflowError"], apart := false, narrowed := true }
def LineClearAllUptoSaid : Prop := lineClearAllUptoRow.holds Try.pinned (OpenSpec.upto lineClearAllSpec)

/-- 'guidewaylaw01.LineStraight', WHERE WHAT IT READS IS OF BULK AT MOST 1048576: true; the input reads as it did. -/
def lineStraightUptoRow : OpenClaim := { program := "ytmnlgeglmkdecaa", sum := "03ab3ea6a785e61766019b29655bbdaa2cec98dd0b5a934d0e48e833d2168c06", func := "guideway/guidewaylaw01.LineStraight", spec := "lineStraight", unfollowed := true, recurses := true, named := ["math/bits.divideError", "math/bits.overflowError"], apart := false, narrowed := true }
def LineStraightUptoSaid : Prop := lineStraightUptoRow.holds Try.pinned (OpenSpec.upto lineStraightSpec)

/-- 'guidewaylaw01.LineSurveys', WHERE WHAT IT READS IS OF BULK AT MOST 1048576: true; the input reads as it did. -/
def lineSurveysUptoRow : OpenClaim := { program := "ytmnlgeglmkdecaa", sum := "03ab3ea6a785e61766019b29655bbdaa2cec98dd0b5a934d0e48e833d2168c06", func := "guideway/guidewaylaw01.LineSurveys", spec := "lineSurveys", unfollowed := true, recurses := true, named := ["math/bits.divideError", "math/bits.overflowError"], apart := false, narrowed := true }
def LineSurveysUptoSaid : Prop := lineSurveysUptoRow.holds Try.pinned (OpenSpec.upto lineSurveysSpec)

/-- 'guidewaylaw01.LineTurned', WHERE WHAT IT READS IS OF BULK AT MOST 1048576: true; the input reads as it did. -/
def lineTurnedUptoRow : OpenClaim := { program := "ytmnlgeglmkdecaa", sum := "03ab3ea6a785e61766019b29655bbdaa2cec98dd0b5a934d0e48e833d2168c06", func := "guideway/guidewaylaw01.LineTurned", spec := "lineTurned", unfollowed := true, recurses := true, named := ["math/bits.divideError", "math/bits.overflowError"], apart := false, narrowed := true }
def LineTurnedUptoSaid : Prop := lineTurnedUptoRow.holds Try.pinned (OpenSpec.upto lineTurnedSpec)

end Rows
end Go.Proofs.Ytmnlgeglmkdecaa
