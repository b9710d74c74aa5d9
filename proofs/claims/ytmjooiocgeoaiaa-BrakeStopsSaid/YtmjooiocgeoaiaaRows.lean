/-
  No cell of these rows narrows 'for every input' (looked for: loops, veiled, ifaces, maps, wideKeys, modest, calm, conditions, laid).
  DERIVED. THE GIVEN ROWS OF THIS SEAT. 4 by the template 'for every input the law returns true; each argument reads behind the call as it read before'; 0 by the template 'total and deterministic' (their statements: YtmjooiocgeoaiaaTotals.lean).
  GIVEN WITH THE SEED: the statements are not yours to turn. If you find one false, say at which input.
  Laid BY PROGRAM, IN A SANDBOX (cutbox-rows.mjs): the forced cells as the released guide's own fill.sh prints them over the translation 8b5e1331689c26f6… (all of the seat's roots in one cut). By AI agents, Wed Nov 11 2026. No macro, syntax, notation, axiom, sorry.
-/
import Derived.Test.YtmjooiocgeoaiaaChecked
import GoSem.Claim
import GoSem.ClaimJoined
import GoSem.ClaimMapViews
import Derived.JoinedTies
import Derived.KernelRfl
namespace Go.Proofs.Ytmjooiocgeoaiaa
/- THE CELL 'sum', in the pinned program and in every row, IS THE sha256 OF THE DUMP (.gsa) THAT YtmjooiocgeoaiaaProg.lean LOADS. Nothing in Lean hashes anything: it is a label: what it is worth is what the hold of that sum in a sandbox is worth. -/
noncomputable def Try.pinned : Pinned := { name := "ytmjooiocgeoaiaa", sum := "8b5e1331689c26f6cfa886c6d17dd96e8ca200323844bd87dabbd5ca217a2e1e", checked := Try.checked }
namespace Rows
def none {H : Type} : Left H := { results := [], args := [] }

/-- 'guidewaylaw05.BrakeStops': WHATEVER THE INPUT: true; the input reads as it did. -/
def brakeStopsSpec : ChangeSpec := { name := "brakeStops", fn := fun _ => fun
  | [d1, d2, d3] => { results := [.lit (.bool true)], args := [d1, d2, d3] }
  | _ => none }
def brakeStopsRow : OpenClaim := { program := "ytmjooiocgeoaiaa", sum := "8b5e1331689c26f6cfa886c6d17dd96e8ca200323844bd87dabbd5ca217a2e1e", func := "guideway/guidewaylaw05.BrakeStops", spec := "brakeStops", unfollowed := true, recurses := true, apart := false }
def BrakeStopsSaid : Prop := brakeStopsRow.holds Try.pinned (OpenSpec.ofChange brakeStopsSpec)

/-- ITS FALSE NEIGHBOUR: 'it returns false'. Refute it at one input. -/
def brakeStopsWrong : ChangeSpec := { name := "brakeStops", fn := fun _ => fun
  | [d1, d2, d3] => { results := [.lit (.bool false)], args := [d1, d2, d3] }
  | _ => none }
def BrakeStopsWrongFalsely : Prop := brakeStopsRow.holds Try.pinned (OpenSpec.ofChange brakeStopsWrong)

/-- 'guidewaylaw05.BrakeSquares': WHATEVER THE INPUT: true; the input reads as it did. -/
def brakeSquaresSpec : ChangeSpec := { name := "brakeSquares", fn := fun _ => fun
  | [d1, d2, d3] => { results := [.lit (.bool true)], args := [d1, d2, d3] }
  | _ => none }
def brakeSquaresRow : OpenClaim := { program := "ytmjooiocgeoaiaa", sum := "8b5e1331689c26f6cfa886c6d17dd96e8ca200323844bd87dabbd5ca217a2e1e", func := "guideway/guidewaylaw05.BrakeSquares", spec := "brakeSquares", unfollowed := true, recurses := true, apart := false }
def BrakeSquaresSaid : Prop := brakeSquaresRow.holds Try.pinned (OpenSpec.ofChange brakeSquaresSpec)

/-- ITS FALSE NEIGHBOUR: 'it returns false'. Refute it at one input. -/
def brakeSquaresWrong : ChangeSpec := { name := "brakeSquares", fn := fun _ => fun
  | [d1, d2, d3] => { results := [.lit (.bool false)], args := [d1, d2, d3] }
  | _ => none }
def BrakeSquaresWrongFalsely : Prop := brakeSquaresRow.holds Try.pinned (OpenSpec.ofChange brakeSquaresWrong)

/-- 'guidewaylaw05.BrakeUnsafe': WHATEVER THE INPUT: true; the input reads as it did. -/
def brakeUnsafeSpec : ChangeSpec := { name := "brakeUnsafe", fn := fun _ => fun
  | [d1, d2, d3] => { results := [.lit (.bool true)], args := [d1, d2, d3] }
  | _ => none }
def brakeUnsafeRow : OpenClaim := { program := "ytmjooiocgeoaiaa", sum := "8b5e1331689c26f6cfa886c6d17dd96e8ca200323844bd87dabbd5ca217a2e1e", func := "guideway/guidewaylaw05.BrakeUnsafe", spec := "brakeUnsafe", unfollowed := true, recurses := true, apart := false }
def BrakeUnsafeSaid : Prop := brakeUnsafeRow.holds Try.pinned (OpenSpec.ofChange brakeUnsafeSpec)

/-- ITS FALSE NEIGHBOUR: 'it returns false'. Refute it at one input. -/
def brakeUnsafeWrong : ChangeSpec := { name := "brakeUnsafe", fn := fun _ => fun
  | [d1, d2, d3] => { results := [.lit (.bool false)], args := [d1, d2, d3] }
  | _ => none }
def BrakeUnsafeWrongFalsely : Prop := brakeUnsafeRow.holds Try.pinned (OpenSpec.ofChange brakeUnsafeWrong)

/-- 'guidewaylaw05.BrakeOthers': WHATEVER THE INPUT: true; the input reads as it did. -/
def brakeOthersSpec : ChangeSpec := { name := "brakeOthers", fn := fun _ => fun
  | [d1, d2] => { results := [.lit (.bool true)], args := [d1, d2] }
  | _ => none }
def brakeOthersRow : OpenClaim := { program := "ytmjooiocgeoaiaa", sum := "8b5e1331689c26f6cfa886c6d17dd96e8ca200323844bd87dabbd5ca217a2e1e", func := "guideway/guidewaylaw05.BrakeOthers", spec := "brakeOthers", apart := false }
def BrakeOthersSaid : Prop := brakeOthersRow.holds Try.pinned (OpenSpec.ofChange brakeOthersSpec)

/-- ITS FALSE NEIGHBOUR: 'it returns false'. Refute it at one input. -/
def brakeOthersWrong : ChangeSpec := { name := "brakeOthers", fn := fun _ => fun
  | [d1, d2] => { results := [.lit (.bool false)], args := [d1, d2] }
  | _ => none }
def BrakeOthersWrongFalsely : Prop := brakeOthersRow.holds Try.pinned (OpenSpec.ofChange brakeOthersWrong)

/- THE SECOND FORM. 'bulk': how many values and letters a reading holds, each counted each time it is reached (what is shared counts as often as it is met; a slice's spare places count too). A statement '..UptoSaid' is the law's where the arguments, and the package variables that the reading takes, are together of bulk at most 1048576: NARROWER than '..Said'. Prove '..Said' where nothing that the law and all that it calls make is longer than what came in: it says more and counts as full. Else prove '..UptoSaid'. A law counts once. -/
mutual
def uptoBulk {H : Type} : DataW H → Nat
  | .lit (.string bytes) => bytes.length + 1
  | .lit _ => 1
  | .nil => 1
  | .ptr d => uptoBulk d + 1
  | .slice elems spare => uptoBulkAll elems + uptoBulkAll spare + 1
  | .agg parts => uptoBulkAll parts + 1
  | .iface _ d => uptoBulk d + 1
  | .map entries => uptoBulkEntries entries + 1
  | .held _ => 1
def uptoBulkAll {H : Type} : List (DataW H) → Nat
  | [] => 0
  | d :: r => uptoBulk d + uptoBulkAll r
def uptoBulkEntries {H : Type} : List (Lit × DataW H) → Nat
  | [] => 0
  | x :: r => uptoBulkEntry x + uptoBulkEntries r
def uptoBulkEntry {H : Type} : Lit × DataW H → Nat
  | (.string bytes, d) => bytes.length + uptoBulk d + 1
  | (_, d) => uptoBulk d + 1
 end
def uptoSmall : (H : Type) → List (DataW H) → Bool := fun _ ds => decide (uptoBulkAll ds ≤ 1048576)
def OpenSpec.upto (s : _root_.Go.ChangeSpec) : _root_.Go.OpenSpec := { _root_.Go.OpenSpec.ofChange s with cond := some uptoSmall }

/-- 'guidewaylaw05.BrakeStops', WHERE WHAT IT READS IS OF BULK AT MOST 1048576: true; the input reads as it did. -/
def brakeStopsUptoRow : OpenClaim := { program := "ytmjooiocgeoaiaa", sum := "8b5e1331689c26f6cfa886c6d17dd96e8ca200323844bd87dabbd5ca217a2e1e", func := "guideway/guidewaylaw05.BrakeStops", spec := "brakeStops", unfollowed := true, recurses := true, apart := false, narrowed := true }
def BrakeStopsUptoSaid : Prop := brakeStopsUptoRow.holds Try.pinned (OpenSpec.upto brakeStopsSpec)

/-- 'guidewaylaw05.BrakeSquares', WHERE WHAT IT READS IS OF BULK AT MOST 1048576: true; the input reads as it did. -/
def brakeSquaresUptoRow : OpenClaim := { program := "ytmjooiocgeoaiaa", sum := "8b5e1331689c26f6cfa886c6d17dd96e8ca200323844bd87dabbd5ca217a2e1e", func := "guideway/guidewaylaw05.BrakeSquares", spec := "brakeSquares", unfollowed := true, recurses := true, apart := false, narrowed := true }
def BrakeSquaresUptoSaid : Prop := brakeSquaresUptoRow.holds Try.pinned (OpenSpec.upto brakeSquaresSpec)

/-- 'guidewaylaw05.BrakeUnsafe', WHERE WHAT IT READS IS OF BULK AT MOST 1048576: true; the input reads as it did. -/
def brakeUnsafeUptoRow : OpenClaim := { program := "ytmjooiocgeoaiaa", sum := "8b5e1331689c26f6cfa886c6d17dd96e8ca200323844bd87dabbd5ca217a2e1e", func := "guideway/guidewaylaw05.BrakeUnsafe", spec := "brakeUnsafe", unfollowed := true, recurses := true, apart := false, narrowed := true }
def BrakeUnsafeUptoSaid : Prop := brakeUnsafeUptoRow.holds Try.pinned (OpenSpec.upto brakeUnsafeSpec)

/-- 'guidewaylaw05.BrakeOthers', WHERE WHAT IT READS IS OF BULK AT MOST 1048576: true; the input reads as it did. -/
def brakeOthersUptoRow : OpenClaim := { program := "ytmjooiocgeoaiaa", sum := "8b5e1331689c26f6cfa886c6d17dd96e8ca200323844bd87dabbd5ca217a2e1e", func := "guideway/guidewaylaw05.BrakeOthers", spec := "brakeOthers", apart := false, narrowed := true }
def BrakeOthersUptoSaid : Prop := brakeOthersUptoRow.holds Try.pinned (OpenSpec.upto brakeOthersSpec)

end Rows
end Go.Proofs.Ytmjooiocgeoaiaa
