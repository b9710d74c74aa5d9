/-
  NARROWER THAN 'FOR EVERY INPUT', by the rows' own cells (each row's printed sentence says how): StatorOrders: laid · StatorHarmonics: laid · StatorStates: laid · StatorBooks: laid · TopStatorNoStep: laid · TopStatorPulsesDrive: laid.
  DERIVED. THE GIVEN ROWS OF THIS SEAT. 6 by the template 'for every input the law returns true; each argument reads behind the call as it read before'; 0 by the template 'total and deterministic' (their statements: YtohldmmfnjfgmaaDoorTotals.lean).
  GIVEN WITH THE SEED: the statements are not yours to turn. If you find one false, say at which input.
  Laid BY PROGRAM, IN A SANDBOX (cutbox-rows.mjs): the forced cells as the released guide's own fill.sh prints them over the translation 8fc3b6bbd2784358… (all of the seat's roots in one cut). By AI agents, Wed Nov 11 2026. No macro, syntax, notation, axiom, sorry.
-/
import Derived.Test.YtohldmmfnjfgmaaDoorChecked
import GoSem.Claim
import GoSem.ClaimJoined
import GoSem.ClaimMapViews
import Derived.JoinedTies
import Derived.KernelRfl
namespace Go.Proofs.YtohldmmfnjfgmaaDoor
/- THE CELL 'sum', in the pinned program and in every row, IS THE sha256 OF THE DUMP (.gsa) THAT YtohldmmfnjfgmaaDoorProg.lean LOADS. Nothing in Lean hashes anything: it is a label: what it is worth is what the hold of that sum in a sandbox is worth. -/
noncomputable def Tryd.pinned : Pinned := { name := "ytohldmmfnjfgmaadoor", sum := "8fc3b6bbd27843586a5f11a49dd76569eb031d04bc54149909dfe376fd7d976f", checked := Tryd.checked }
namespace Rows
def none {H : Type} : Left H := { results := [], args := [] }

/- WHAT THE LISTED PACKAGE-LEVEL VARIABLES READ AS WHEN THE CALL BEGINS. Each datum BY PROGRAM (the guide's laid-datum.mjs) off the statement by which the dump's own 'gosem.cut.vars' lays the variable. In a bare row this is a premise. The card (YtohldmmfnjfgmaaDoorCards.lean) ties it to the program's text. -/
def laid_guideway_stator_stateVectors {H : Type} : DataW H := .agg [.agg [.lit (.int .i64 0), .lit (.int .i64 0)], .agg [.lit (.int .i64 (-1)), .lit (.int .i64 (-1))], .agg [.lit (.int .i64 0), .lit (.int .i64 1)], .agg [.lit (.int .i64 (-1)), .lit (.int .i64 0)], .agg [.lit (.int .i64 1), .lit (.int .i64 0)], .agg [.lit (.int .i64 0), .lit (.int .i64 (-1))], .agg [.lit (.int .i64 1), .lit (.int .i64 1)], .agg [.lit (.int .i64 0), .lit (.int .i64 0)]]

/-- 'guidewaylaw03.StatorOrders': WHATEVER THE INPUT: true; the input reads as it did. -/
def statorOrdersSpec : ChangeSpec := { name := "statorOrders", fn := fun _ => fun
  | [d1, d2] => { results := [.lit (.bool true)], args := [d1, d2] }
  | _ => none }
def statorOrdersRow : OpenClaim := { program := "ytohldmmfnjfgmaadoor", sum := "8fc3b6bbd27843586a5f11a49dd76569eb031d04bc54149909dfe376fd7d976f", func := "guideway/guidewaylaw03.StatorOrders", spec := "statorOrders", unfollowed := true, recurses := true, named := ["guideway/stator.stateVectors"], apart := false, laid := [("guideway/stator.stateVectors", laid_guideway_stator_stateVectors)] }
def StatorOrdersSaid : Prop := statorOrdersRow.holds Tryd.pinned (OpenSpec.ofChange statorOrdersSpec)

/-- ITS FALSE NEIGHBOUR: 'it returns false'. Refute it at one input. -/
def statorOrdersWrong : ChangeSpec := { name := "statorOrders", fn := fun _ => fun
  | [d1, d2] => { results := [.lit (.bool false)], args := [d1, d2] }
  | _ => none }
def StatorOrdersWrongFalsely : Prop := statorOrdersRow.holds Tryd.pinned (OpenSpec.ofChange statorOrdersWrong)

/-- 'guidewaylaw03.StatorHarmonics': WHATEVER THE INPUT: true; the input reads as it did. -/
def statorHarmonicsSpec : ChangeSpec := { name := "statorHarmonics", fn := fun _ => fun
  | [d] => { results := [.lit (.bool true)], args := [d] }
  | _ => none }
def statorHarmonicsRow : OpenClaim := { program := "ytohldmmfnjfgmaadoor", sum := "8fc3b6bbd27843586a5f11a49dd76569eb031d04bc54149909dfe376fd7d976f", func := "guideway/guidewaylaw03.StatorHarmonics", spec := "statorHarmonics", unfollowed := true, recurses := true, named := ["guideway/stator.stateVectors"], apart := false, laid := [("guideway/stator.stateVectors", laid_guideway_stator_stateVectors)] }
def StatorHarmonicsSaid : Prop := statorHarmonicsRow.holds Tryd.pinned (OpenSpec.ofChange statorHarmonicsSpec)

/-- ITS FALSE NEIGHBOUR: 'it returns false'. Refute it at one input. -/
def statorHarmonicsWrong : ChangeSpec := { name := "statorHarmonics", fn := fun _ => fun
  | [d] => { results := [.lit (.bool false)], args := [d] }
  | _ => none }
def StatorHarmonicsWrongFalsely : Prop := statorHarmonicsRow.holds Tryd.pinned (OpenSpec.ofChange statorHarmonicsWrong)

/-- 'guidewaylaw03.StatorStates': WHATEVER THE INPUT: true; the input reads as it did. -/
def statorStatesSpec : ChangeSpec := { name := "statorStates", fn := fun _ => fun
  | [d1, d2, d3] => { results := [.lit (.bool true)], args := [d1, d2, d3] }
  | _ => none }
def statorStatesRow : OpenClaim := { program := "ytohldmmfnjfgmaadoor", sum := "8fc3b6bbd27843586a5f11a49dd76569eb031d04bc54149909dfe376fd7d976f", func := "guideway/guidewaylaw03.StatorStates", spec := "statorStates", unfollowed := true, recurses := true, named := ["guideway/stator.stateVectors"], apart := false, laid := [("guideway/stator.stateVectors", laid_guideway_stator_stateVectors)] }
def StatorStatesSaid : Prop := statorStatesRow.holds Tryd.pinned (OpenSpec.ofChange statorStatesSpec)

/-- ITS FALSE NEIGHBOUR: 'it returns false'. Refute it at one input. -/
def statorStatesWrong : ChangeSpec := { name := "statorStates", fn := fun _ => fun
  | [d1, d2, d3] => { results := [.lit (.bool false)], args := [d1, d2, d3] }
  | _ => none }
def StatorStatesWrongFalsely : Prop := statorStatesRow.holds Tryd.pinned (OpenSpec.ofChange statorStatesWrong)

/-- 'guidewaylaw03.StatorBooks': WHATEVER THE INPUT: true; the input reads as it did. -/
def statorBooksSpec : ChangeSpec := { name := "statorBooks", fn := fun _ => fun
  | [d] => { results := [.lit (.bool true)], args := [d] }
  | _ => none }
def statorBooksRow : OpenClaim := { program := "ytohldmmfnjfgmaadoor", sum := "8fc3b6bbd27843586a5f11a49dd76569eb031d04bc54149909dfe376fd7d976f", func := "guideway/guidewaylaw03.StatorBooks", spec := "statorBooks", unfollowed := true, recurses := true, named := ["guideway/stator.stateVectors"], apart := false, laid := [("guideway/stator.stateVectors", laid_guideway_stator_stateVectors)] }
def StatorBooksSaid : Prop := statorBooksRow.holds Tryd.pinned (OpenSpec.ofChange statorBooksSpec)

/-- ITS FALSE NEIGHBOUR: 'it returns false'. Refute it at one input. -/
def statorBooksWrong : ChangeSpec := { name := "statorBooks", fn := fun _ => fun
  | [d] => { results := [.lit (.bool false)], args := [d] }
  | _ => none }
def StatorBooksWrongFalsely : Prop := statorBooksRow.holds Tryd.pinned (OpenSpec.ofChange statorBooksWrong)

/-- 'guidewaytop.TopStatorNoStep': WHATEVER THE INPUT: true; the input reads as it did. -/
def topStatorNoStepSpec : ChangeSpec := { name := "topStatorNoStep", fn := fun _ => fun
  | [d1, d2, d3] => { results := [.lit (.bool true)], args := [d1, d2, d3] }
  | _ => none }
def topStatorNoStepRow : OpenClaim := { program := "ytohldmmfnjfgmaadoor", sum := "8fc3b6bbd27843586a5f11a49dd76569eb031d04bc54149909dfe376fd7d976f", func := "guideway/guidewaytop.TopStatorNoStep", spec := "topStatorNoStep", unfollowed := true, recurses := true, named := ["guideway/stator.stateVectors"], apart := false, laid := [("guideway/stator.stateVectors", laid_guideway_stator_stateVectors)] }
def TopStatorNoStepSaid : Prop := topStatorNoStepRow.holds Tryd.pinned (OpenSpec.ofChange topStatorNoStepSpec)

/-- ITS FALSE NEIGHBOUR: 'it returns false'. Refute it at one input. -/
def topStatorNoStepWrong : ChangeSpec := { name := "topStatorNoStep", fn := fun _ => fun
  | [d1, d2, d3] => { results := [.lit (.bool false)], args := [d1, d2, d3] }
  | _ => none }
def TopStatorNoStepWrongFalsely : Prop := topStatorNoStepRow.holds Tryd.pinned (OpenSpec.ofChange topStatorNoStepWrong)

/-- 'guidewaytop.TopStatorPulsesDrive': WHATEVER THE INPUT: true; the input reads as it did. -/
def topStatorPulsesDriveSpec : ChangeSpec := { name := "topStatorPulsesDrive", fn := fun _ => fun
  | [d1, d2, d3] => { results := [.lit (.bool true)], args := [d1, d2, d3] }
  | _ => none }
def topStatorPulsesDriveRow : OpenClaim := { program := "ytohldmmfnjfgmaadoor", sum := "8fc3b6bbd27843586a5f11a49dd76569eb031d04bc54149909dfe376fd7d976f", func := "guideway/guidewaytop.TopStatorPulsesDrive", spec := "topStatorPulsesDrive", unfollowed := true, recurses := true, named := ["guideway/stator.stateVectors"], apart := false, laid := [("guideway/stator.stateVectors", laid_guideway_stator_stateVectors)] }
def TopStatorPulsesDriveSaid : Prop := topStatorPulsesDriveRow.holds Tryd.pinned (OpenSpec.ofChange topStatorPulsesDriveSpec)

/-- ITS FALSE NEIGHBOUR: 'it returns false'. Refute it at one input. -/
def topStatorPulsesDriveWrong : ChangeSpec := { name := "topStatorPulsesDrive", fn := fun _ => fun
  | [d1, d2, d3] => { results := [.lit (.bool false)], args := [d1, d2, d3] }
  | _ => none }
def TopStatorPulsesDriveWrongFalsely : Prop := topStatorPulsesDriveRow.holds Tryd.pinned (OpenSpec.ofChange topStatorPulsesDriveWrong)

/- THE SECOND FORM. 'bulk': how many values and letters a reading holds, each counted each time it is reached (what is shared counts as often as it is met; a slice's spare places count too). A statement '..UptoSaid' is the law's where the arguments, and the package variables that the reading takes, are together of bulk at most 1048576: NARROWER than '..Said'. Prove '..Said' where nothing that the law and all that it calls make is longer than what came in: it says more and counts as full. Else prove '..UptoSaid'. A law counts once. -/
mutual
def uptoBulk {H : Type} : DataW H → Nat
  | .lit (.string bytes) => bytes.length + 1
  | .lit _ => 1
  | .nil => 1
  | .ptr d => uptoBulk d + 1
  | .slice elems spare => uptoBulkAll elems + uptoBulkAll spare + 1
  | .agg parts => uptoBulkAll parts + 1
  | .iface _ d => uptoBulk d + 1
  | .map entries => uptoBulkEntries entries + 1
  | .held _ => 1
def uptoBulkAll {H : Type} : List (DataW H) → Nat
  | [] => 0
  | d :: r => uptoBulk d + uptoBulkAll r
def uptoBulkEntries {H : Type} : List (Lit × DataW H) → Nat
  | [] => 0
  | x :: r => uptoBulkEntry x + uptoBulkEntries r
def uptoBulkEntry {H : Type} : Lit × DataW H → Nat
  | (.string bytes, d) => bytes.length + uptoBulk d + 1
  | (_, d) => uptoBulk d + 1
 end
def uptoSmall : (H : Type) → List (DataW H) → Bool := fun _ ds => decide (uptoBulkAll ds ≤ 1048576)
def OpenSpec.upto (s : _root_.Go.ChangeSpec) : _root_.Go.OpenSpec := { _root_.Go.OpenSpec.ofChange s with cond := some uptoSmall }

/-- 'guidewaylaw03.StatorOrders', WHERE WHAT IT READS IS OF BULK AT MOST 1048576: true; the input reads as it did. -/
def statorOrdersUptoRow : OpenClaim := { program := "ytohldmmfnjfgmaadoor", sum := "8fc3b6bbd27843586a5f11a49dd76569eb031d04bc54149909dfe376fd7d976f", func := "guideway/guidewaylaw03.StatorOrders", spec := "statorOrders", unfollowed := true, recurses := true, named := ["guideway/stator.stateVectors"], apart := false, laid := [("guideway/stator.stateVectors", laid_guideway_stator_stateVectors)], narrowed := true }
def StatorOrdersUptoSaid : Prop := statorOrdersUptoRow.holds Tryd.pinned (OpenSpec.upto statorOrdersSpec)

/-- 'guidewaylaw03.StatorHarmonics', WHERE WHAT IT READS IS OF BULK AT MOST 1048576: true; the input reads as it did. -/
def statorHarmonicsUptoRow : OpenClaim := { program := "ytohldmmfnjfgmaadoor", sum := "8fc3b6bbd27843586a5f11a49dd76569eb031d04bc54149909dfe376fd7d976f", func := "guideway/guidewaylaw03.StatorHarmonics", spec := "statorHarmonics", unfollowed := true, recurses := true, named := ["guideway/stator.stateVectors"], apart := false, laid := [("guideway/stator.stateVectors", laid_guideway_stator_stateVectors)], narrowed := true }
def StatorHarmonicsUptoSaid : Prop := statorHarmonicsUptoRow.holds Tryd.pinned (OpenSpec.upto statorHarmonicsSpec)

/-- 'guidewaylaw03.StatorStates', WHERE WHAT IT READS IS OF BULK AT MOST 1048576: true; the input reads as it did. -/
def statorStatesUptoRow : OpenClaim := { program := "ytohldmmfnjfgmaadoor", sum := "8fc3b6bbd27843586a5f11a49dd76569eb031d04bc54149909dfe376fd7d976f", func := "guideway/guidewaylaw03.StatorStates", spec := "statorStates", unfollowed := true, recurses := true, named := ["guideway/stator.stateVectors"], apart := false, laid := [("guideway/stator.stateVectors", laid_guideway_stator_stateVectors)], narrowed := true }
def StatorStatesUptoSaid : Prop := statorStatesUptoRow.holds Tryd.pinned (OpenSpec.upto statorStatesSpec)

/-- 'guidewaylaw03.StatorBooks', WHERE WHAT IT READS IS OF BULK AT MOST 1048576: true; the input reads as it did. -/
def statorBooksUptoRow : OpenClaim := { program := "ytohldmmfnjfgmaadoor", sum := "8fc3b6bbd27843586a5f11a49dd76569eb031d04bc54149909dfe376fd7d976f", func := "guideway/guidewaylaw03.StatorBooks", spec := "statorBooks", unfollowed := true, recurses := true, named := ["guideway/stator.stateVectors"], apart := false, laid := [("guideway/stator.stateVectors", laid_guideway_stator_stateVectors)], narrowed := true }
def StatorBooksUptoSaid : Prop := statorBooksUptoRow.holds Tryd.pinned (OpenSpec.upto statorBooksSpec)

/-- 'guidewaytop.TopStatorNoStep', WHERE WHAT IT READS IS OF BULK AT MOST 1048576: true; the input reads as it did. -/
def topStatorNoStepUptoRow : OpenClaim := { program := "ytohldmmfnjfgmaadoor", sum := "8fc3b6bbd27843586a5f11a49dd76569eb031d04bc54149909dfe376fd7d976f", func := "guideway/guidewaytop.TopStatorNoStep", spec := "topStatorNoStep", unfollowed := true, recurses := true, named := ["guideway/stator.stateVectors"], apart := false, laid := [("guideway/stator.stateVectors", laid_guideway_stator_stateVectors)], narrowed := true }
def TopStatorNoStepUptoSaid : Prop := topStatorNoStepUptoRow.holds Tryd.pinned (OpenSpec.upto topStatorNoStepSpec)

/-- 'guidewaytop.TopStatorPulsesDrive', WHERE WHAT IT READS IS OF BULK AT MOST 1048576: true; the input reads as it did. -/
def topStatorPulsesDriveUptoRow : OpenClaim := { program := "ytohldmmfnjfgmaadoor", sum := "8fc3b6bbd27843586a5f11a49dd76569eb031d04bc54149909dfe376fd7d976f", func := "guideway/guidewaytop.TopStatorPulsesDrive", spec := "topStatorPulsesDrive", unfollowed := true, recurses := true, named := ["guideway/stator.stateVectors"], apart := false, laid := [("guideway/stator.stateVectors", laid_guideway_stator_stateVectors)], narrowed := true }
def TopStatorPulsesDriveUptoSaid : Prop := topStatorPulsesDriveUptoRow.holds Tryd.pinned (OpenSpec.upto topStatorPulsesDriveSpec)

end Rows
end Go.Proofs.YtohldmmfnjfgmaaDoor
