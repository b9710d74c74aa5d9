/-
  No cell of these rows narrows 'for every input' (looked for: loops, veiled, ifaces, maps, wideKeys, modest, calm, conditions, laid).
  DERIVED. THE GIVEN ROWS OF THIS SEAT. 4 by the template 'for every input the law returns true; each argument reads behind the call as it read before'; 0 by the template 'total and deterministic' (their statements: YtlmfpodajmmdeaaTotals.lean).
  GIVEN WITH THE SEED: the statements are not yours to turn. If you find one false, say at which input.
  Laid BY PROGRAM, IN A SANDBOX (cutbox-rows.mjs): the forced cells as the released guide's own fill.sh prints them over the translation 2808d5b2d247d348… (all of the seat's roots in one cut). By AI agents, Wed Nov 11 2026. No macro, syntax, notation, axiom, sorry.
-/
import Derived.Test.YtlmfpodajmmdeaaChecked
import GoSem.Claim
import GoSem.ClaimJoined
import GoSem.ClaimMapViews
import Derived.JoinedTies
import Derived.KernelRfl
namespace Go.Proofs.Ytlmfpodajmmdeaa
/- THE CELL 'sum', in the pinned program and in every row, IS THE sha256 OF THE DUMP (.gsa) THAT YtlmfpodajmmdeaaProg.lean LOADS. Nothing in Lean hashes anything: it is a label: what it is worth is what the hold of that sum in a sandbox is worth. -/
noncomputable def Try.pinned : Pinned := { name := "ytlmfpodajmmdeaa", sum := "2808d5b2d247d348869019ce831e4ab259dfe7d9b820af6745a29ce59ea409a8", checked := Try.checked }
namespace Rows
def none {H : Type} : Left H := { results := [], args := [] }

/-- 'guidewaylaw05.BrakeTracks': WHATEVER THE INPUT: true; the input reads as it did. -/
def brakeTracksSpec : ChangeSpec := { name := "brakeTracks", fn := fun _ => fun
  | [d1, d2] => { results := [.lit (.bool true)], args := [d1, d2] }
  | _ => none }
def brakeTracksRow : OpenClaim := { program := "ytlmfpodajmmdeaa", sum := "2808d5b2d247d348869019ce831e4ab259dfe7d9b820af6745a29ce59ea409a8", func := "guideway/guidewaylaw05.BrakeTracks", spec := "brakeTracks", apart := false }
def BrakeTracksSaid : Prop := brakeTracksRow.holds Try.pinned (OpenSpec.ofChange brakeTracksSpec)

/-- ITS FALSE NEIGHBOUR: 'it returns false'. Refute it at one input. -/
def brakeTracksWrong : ChangeSpec := { name := "brakeTracks", fn := fun _ => fun
  | [d1, d2] => { results := [.lit (.bool false)], args := [d1, d2] }
  | _ => none }
def BrakeTracksWrongFalsely : Prop := brakeTracksRow.holds Try.pinned (OpenSpec.ofChange brakeTracksWrong)

/-- 'guidewaylaw05.BrakeCurves': WHATEVER THE INPUT: true; the input reads as it did. -/
def brakeCurvesSpec : ChangeSpec := { name := "brakeCurves", fn := fun _ => fun
  | [d1, d2, d3] => { results := [.lit (.bool true)], args := [d1, d2, d3] }
  | _ => none }
def brakeCurvesRow : OpenClaim := { program := "ytlmfpodajmmdeaa", sum := "2808d5b2d247d348869019ce831e4ab259dfe7d9b820af6745a29ce59ea409a8", func := "guideway/guidewaylaw05.BrakeCurves", spec := "brakeCurves", apart := false }
def BrakeCurvesSaid : Prop := brakeCurvesRow.holds Try.pinned (OpenSpec.ofChange brakeCurvesSpec)

/-- ITS FALSE NEIGHBOUR: 'it returns false'. Refute it at one input. -/
def brakeCurvesWrong : ChangeSpec := { name := "brakeCurves", fn := fun _ => fun
  | [d1, d2, d3] => { results := [.lit (.bool false)], args := [d1, d2, d3] }
  | _ => none }
def BrakeCurvesWrongFalsely : Prop := brakeCurvesRow.holds Try.pinned (OpenSpec.ofChange brakeCurvesWrong)

/-- 'guidewaylaw05.BrakeReaches': WHATEVER THE INPUT: true; the input reads as it did. -/
def brakeReachesSpec : ChangeSpec := { name := "brakeReaches", fn := fun _ => fun
  | [d1, d2, d3] => { results := [.lit (.bool true)], args := [d1, d2, d3] }
  | _ => none }
def brakeReachesRow : OpenClaim := { program := "ytlmfpodajmmdeaa", sum := "2808d5b2d247d348869019ce831e4ab259dfe7d9b820af6745a29ce59ea409a8", func := "guideway/guidewaylaw05.BrakeReaches", spec := "brakeReaches", apart := false }
def BrakeReachesSaid : Prop := brakeReachesRow.holds Try.pinned (OpenSpec.ofChange brakeReachesSpec)

/-- ITS FALSE NEIGHBOUR: 'it returns false'. Refute it at one input. -/
def brakeReachesWrong : ChangeSpec := { name := "brakeReaches", fn := fun _ => fun
  | [d1, d2, d3] => { results := [.lit (.bool false)], args := [d1, d2, d3] }
  | _ => none }
def BrakeReachesWrongFalsely : Prop := brakeReachesRow.holds Try.pinned (OpenSpec.ofChange brakeReachesWrong)

/-- 'guidewaylaw05.BrakeTwoWays': WHATEVER THE INPUT: true; the input reads as it did. -/
def brakeTwoWaysSpec : ChangeSpec := { name := "brakeTwoWays", fn := fun _ => fun
  | [d1, d2, d3] => { results := [.lit (.bool true)], args := [d1, d2, d3] }
  | _ => none }
def brakeTwoWaysRow : OpenClaim := { program := "ytlmfpodajmmdeaa", sum := "2808d5b2d247d348869019ce831e4ab259dfe7d9b820af6745a29ce59ea409a8", func := "guideway/guidewaylaw05.BrakeTwoWays", spec := "brakeTwoWays", apart := false }
def BrakeTwoWaysSaid : Prop := brakeTwoWaysRow.holds Try.pinned (OpenSpec.ofChange brakeTwoWaysSpec)

/-- ITS FALSE NEIGHBOUR: 'it returns false'. Refute it at one input. -/
def brakeTwoWaysWrong : ChangeSpec := { name := "brakeTwoWays", fn := fun _ => fun
  | [d1, d2, d3] => { results := [.lit (.bool false)], args := [d1, d2, d3] }
  | _ => none }
def BrakeTwoWaysWrongFalsely : Prop := brakeTwoWaysRow.holds Try.pinned (OpenSpec.ofChange brakeTwoWaysWrong)

/- THE SECOND FORM. 'bulk': how many values and letters a reading holds, each counted each time it is reached (what is shared counts as often as it is met; a slice's spare places count too). A statement '..UptoSaid' is the law's where the arguments, and the package variables that the reading takes, are together of bulk at most 1048576: NARROWER than '..Said'. Prove '..Said' where nothing that the law and all that it calls make is longer than what came in: it says more and counts as full. Else prove '..UptoSaid'. A law counts once. -/
mutual
def uptoBulk {H : Type} : DataW H → Nat
  | .lit (.string bytes) => bytes.length + 1
  | .lit _ => 1
  | .nil => 1
  | .ptr d => uptoBulk d + 1
  | .slice elems spare => uptoBulkAll elems + uptoBulkAll spare + 1
  | .agg parts => uptoBulkAll parts + 1
  | .iface _ d => uptoBulk d + 1
  | .map entries => uptoBulkEntries entries + 1
  | .held _ => 1
def uptoBulkAll {H : Type} : List (DataW H) → Nat
  | [] => 0
  | d :: r => uptoBulk d + uptoBulkAll r
def uptoBulkEntries {H : Type} : List (Lit × DataW H) → Nat
  | [] => 0
  | x :: r => uptoBulkEntry x + uptoBulkEntries r
def uptoBulkEntry {H : Type} : Lit × DataW H → Nat
  | (.string bytes, d) => bytes.length + uptoBulk d + 1
  | (_, d) => uptoBulk d + 1
 end
def uptoSmall : (H : Type) → List (DataW H) → Bool := fun _ ds => decide (uptoBulkAll ds ≤ 1048576)
def OpenSpec.upto (s : _root_.Go.ChangeSpec) : _root_.Go.OpenSpec := { _root_.Go.OpenSpec.ofChange s with cond := some uptoSmall }

/-- 'guidewaylaw05.BrakeTracks', WHERE WHAT IT READS IS OF BULK AT MOST 1048576: true; the input reads as it did. -/
def brakeTracksUptoRow : OpenClaim := { program := "ytlmfpodajmmdeaa", sum := "2808d5b2d247d348869019ce831e4ab259dfe7d9b820af6745a29ce59ea409a8", func := "guideway/guidewaylaw05.BrakeTracks", spec := "brakeTracks", apart := false, narrowed := true }
def BrakeTracksUptoSaid : Prop := brakeTracksUptoRow.holds Try.pinned (OpenSpec.upto brakeTracksSpec)

/-- 'guidewaylaw05.BrakeCurves', WHERE WHAT IT READS IS OF BULK AT MOST 1048576: true; the input reads as it did. -/
def brakeCurvesUptoRow : OpenClaim := { program := "ytlmfpodajmmdeaa", sum := "2808d5b2d247d348869019ce831e4ab259dfe7d9b820af6745a29ce59ea409a8", func := "guideway/guidewaylaw05.BrakeCurves", spec := "brakeCurves", apart := false, narrowed := true }
def BrakeCurvesUptoSaid : Prop := brakeCurvesUptoRow.holds Try.pinned (OpenSpec.upto brakeCurvesSpec)

/-- 'guidewaylaw05.BrakeReaches', WHERE WHAT IT READS IS OF BULK AT MOST 1048576: true; the input reads as it did. -/
def brakeReachesUptoRow : OpenClaim := { program := "ytlmfpodajmmdeaa", sum := "2808d5b2d247d348869019ce831e4ab259dfe7d9b820af6745a29ce59ea409a8", func := "guideway/guidewaylaw05.BrakeReaches", spec := "brakeReaches", apart := false, narrowed := true }
def BrakeReachesUptoSaid : Prop := brakeReachesUptoRow.holds Try.pinned (OpenSpec.upto brakeReachesSpec)

/-- 'guidewaylaw05.BrakeTwoWays', WHERE WHAT IT READS IS OF BULK AT MOST 1048576: true; the input reads as it did. -/
def brakeTwoWaysUptoRow : OpenClaim := { program := "ytlmfpodajmmdeaa", sum := "2808d5b2d247d348869019ce831e4ab259dfe7d9b820af6745a29ce59ea409a8", func := "guideway/guidewaylaw05.BrakeTwoWays", spec := "brakeTwoWays", apart := false, narrowed := true }
def BrakeTwoWaysUptoSaid : Prop := brakeTwoWaysUptoRow.holds Try.pinned (OpenSpec.upto brakeTwoWaysSpec)

end Rows
end Go.Proofs.Ytlmfpodajmmdeaa
