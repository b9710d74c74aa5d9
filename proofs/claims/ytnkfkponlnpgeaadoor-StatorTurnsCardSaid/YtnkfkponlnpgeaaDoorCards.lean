/-
  DERIVED. GIVEN WITH THE SEED: THE CARDS: each row of YtnkfkponlnpgeaaDoorRows.lean that lists a variable, with what it lists TIED to the program's text (the seventh form; the later family's looks); each row that meets fmt, with fmt's text TOLD by the authors' own Lean function (tested against real Go, not proved from fmt's source: count such statements apart). THE CARD IS WHAT COUNTS. Prove the row's statement (the work); the ties are given (YtnkfkponlnpgeaaDoorTie.lean); close each card by the builder's one call (the guide's Derived/Test/ToyasCard.lean, 'card_holds'). Laid BY PROGRAM, IN A SANDBOX (cutbox-door.mjs). By AI agents, Wed Nov 11 2026. No macro, syntax, notation, axiom, sorry.
-/
import Derived.Test.YtnkfkponlnpgeaaDoorRows
import GoSem.ClaimSeven
namespace Go.Proofs.YtnkfkponlnpgeaaDoor
namespace Rows

/-- THE TIED CARD OF 'guidewaylaw03.StatorVectors'. -/
def statorVectorsCard : Claim7 := { stood := { row := statorVectorsRow, standIns := [], harness := (true, "fa2e95eb02e20652230cc4018f4fad09d41e1061f2dee2a3f5771ddff760b980"), looks := false }, kinds := [], alts := [], laidByText := true, laidKinds := [.data], laidTests := true, laidLooks := .later }
def StatorVectorsCardSaid : Prop := Claim7.holds Tryd.pinned (.plain (OpenSpec.ofChange statorVectorsSpec)) statorVectorsCard

/-- THE TIED CARD OF 'guidewaylaw03.StatorTurns'. -/
def statorTurnsCard : Claim7 := { stood := { row := statorTurnsRow, standIns := [], harness := (true, "fa2e95eb02e20652230cc4018f4fad09d41e1061f2dee2a3f5771ddff760b980"), looks := false }, kinds := [], alts := [], laidByText := true, laidKinds := [.data], laidTests := true, laidLooks := .later }
def StatorTurnsCardSaid : Prop := Claim7.holds Tryd.pinned (.plain (OpenSpec.ofChange statorTurnsSpec)) statorTurnsCard

/-- THE TIED CARD OF 'guidewaylaw03.StatorForces'. -/
def statorForcesCard : Claim7 := { stood := { row := statorForcesRow, standIns := [], harness := (true, "fa2e95eb02e20652230cc4018f4fad09d41e1061f2dee2a3f5771ddff760b980"), looks := false }, kinds := [], alts := [], laidByText := true, laidKinds := [.data], laidTests := true, laidLooks := .later }
def StatorForcesCardSaid : Prop := Claim7.holds Tryd.pinned (.plain (OpenSpec.ofChange statorForcesSpec)) statorForcesCard

/-- THE TIED CARD OF 'guidewaylaw03.StatorBoth'. -/
def statorBothCard : Claim7 := { stood := { row := statorBothRow, standIns := [], harness := (true, "fa2e95eb02e20652230cc4018f4fad09d41e1061f2dee2a3f5771ddff760b980"), looks := false }, kinds := [], alts := [], laidByText := true, laidKinds := [.data], laidTests := true, laidLooks := .later }
def StatorBothCardSaid : Prop := Claim7.holds Tryd.pinned (.plain (OpenSpec.ofChange statorBothSpec)) statorBothCard

/-- THE TIED CARD OF 'guidewaylaw03.StatorTracks'. -/
def statorTracksCard : Claim7 := { stood := { row := statorTracksRow, standIns := [], harness := (true, "fa2e95eb02e20652230cc4018f4fad09d41e1061f2dee2a3f5771ddff760b980"), looks := false }, kinds := [], alts := [], laidByText := true, laidKinds := [.data], laidTests := true, laidLooks := .later }
def StatorTracksCardSaid : Prop := Claim7.holds Tryd.pinned (.plain (OpenSpec.ofChange statorTracksSpec)) statorTracksCard

/-- THE TIED CARD OF 'guidewaylaw03.StatorOnTrack'. -/
def statorOnTrackCard : Claim7 := { stood := { row := statorOnTrackRow, standIns := [], harness := (true, "fa2e95eb02e20652230cc4018f4fad09d41e1061f2dee2a3f5771ddff760b980"), looks := false }, kinds := [], alts := [], laidByText := true, laidKinds := [.data], laidTests := true, laidLooks := .later }
def StatorOnTrackCardSaid : Prop := Claim7.holds Tryd.pinned (.plain (OpenSpec.ofChange statorOnTrackSpec)) statorOnTrackCard

/-- THE TIED CARD OF 'guidewaylaw03.StatorNoStep'. -/
def statorNoStepCard : Claim7 := { stood := { row := statorNoStepRow, standIns := [], harness := (true, "fa2e95eb02e20652230cc4018f4fad09d41e1061f2dee2a3f5771ddff760b980"), looks := false }, kinds := [], alts := [], laidByText := true, laidKinds := [.data], laidTests := true, laidLooks := .later }
def StatorNoStepCardSaid : Prop := Claim7.holds Tryd.pinned (.plain (OpenSpec.ofChange statorNoStepSpec)) statorNoStepCard

/-- THE TIED CARD OF 'guidewaylaw03.StatorChanges'. -/
def statorChangesCard : Claim7 := { stood := { row := statorChangesRow, standIns := [], harness := (true, "fa2e95eb02e20652230cc4018f4fad09d41e1061f2dee2a3f5771ddff760b980"), looks := false }, kinds := [], alts := [], laidByText := true, laidKinds := [.data], laidTests := true, laidLooks := .later }
def StatorChangesCardSaid : Prop := Claim7.holds Tryd.pinned (.plain (OpenSpec.ofChange statorChangesSpec)) statorChangesCard

/-- THE TIED CARD OF 'guidewaylaw03.StatorEven'. -/
def statorEvenCard : Claim7 := { stood := { row := statorEvenRow, standIns := [], harness := (true, "fa2e95eb02e20652230cc4018f4fad09d41e1061f2dee2a3f5771ddff760b980"), looks := false }, kinds := [], alts := [], laidByText := true, laidKinds := [.data], laidTests := true, laidLooks := .later }
def StatorEvenCardSaid : Prop := Claim7.holds Tryd.pinned (.plain (OpenSpec.ofChange statorEvenSpec)) statorEvenCard

/-- THE TIED CARD OF 'guidewaylaw03.StatorOrders'. -/
def statorOrdersCard : Claim7 := { stood := { row := statorOrdersRow, standIns := [], harness := (true, "fa2e95eb02e20652230cc4018f4fad09d41e1061f2dee2a3f5771ddff760b980"), looks := false }, kinds := [], alts := [], laidByText := true, laidKinds := [.data], laidTests := true, laidLooks := .later }
def StatorOrdersCardSaid : Prop := Claim7.holds Tryd.pinned (.plain (OpenSpec.ofChange statorOrdersSpec)) statorOrdersCard

/-- THE TIED CARD OF 'guidewaylaw03.StatorHarmonics'. -/
def statorHarmonicsCard : Claim7 := { stood := { row := statorHarmonicsRow, standIns := [], harness := (true, "fa2e95eb02e20652230cc4018f4fad09d41e1061f2dee2a3f5771ddff760b980"), looks := false }, kinds := [], alts := [], laidByText := true, laidKinds := [.data], laidTests := true, laidLooks := .later }
def StatorHarmonicsCardSaid : Prop := Claim7.holds Tryd.pinned (.plain (OpenSpec.ofChange statorHarmonicsSpec)) statorHarmonicsCard

/-- THE TIED CARD OF 'guidewaylaw03.StatorStates'. -/
def statorStatesCard : Claim7 := { stood := { row := statorStatesRow, standIns := [], harness := (true, "fa2e95eb02e20652230cc4018f4fad09d41e1061f2dee2a3f5771ddff760b980"), looks := false }, kinds := [], alts := [], laidByText := true, laidKinds := [.data], laidTests := true, laidLooks := .later }
def StatorStatesCardSaid : Prop := Claim7.holds Tryd.pinned (.plain (OpenSpec.ofChange statorStatesSpec)) statorStatesCard

/-- THE SECOND FORM's CARD OF 'guidewaylaw03.StatorVectors'. -/
def statorVectorsUptoCard : Claim7 := { stood := { row := statorVectorsUptoRow, standIns := [], harness := (true, "fa2e95eb02e20652230cc4018f4fad09d41e1061f2dee2a3f5771ddff760b980"), looks := false }, kinds := [], alts := [], laidByText := true, laidKinds := [.data], laidTests := true, laidLooks := .later }
def StatorVectorsUptoCardSaid : Prop := Claim7.holds Tryd.pinned (.plain (OpenSpec.upto statorVectorsSpec)) statorVectorsUptoCard

/-- THE SECOND FORM's CARD OF 'guidewaylaw03.StatorTurns'. -/
def statorTurnsUptoCard : Claim7 := { stood := { row := statorTurnsUptoRow, standIns := [], harness := (true, "fa2e95eb02e20652230cc4018f4fad09d41e1061f2dee2a3f5771ddff760b980"), looks := false }, kinds := [], alts := [], laidByText := true, laidKinds := [.data], laidTests := true, laidLooks := .later }
def StatorTurnsUptoCardSaid : Prop := Claim7.holds Tryd.pinned (.plain (OpenSpec.upto statorTurnsSpec)) statorTurnsUptoCard

/-- THE SECOND FORM's CARD OF 'guidewaylaw03.StatorForces'. -/
def statorForcesUptoCard : Claim7 := { stood := { row := statorForcesUptoRow, standIns := [], harness := (true, "fa2e95eb02e20652230cc4018f4fad09d41e1061f2dee2a3f5771ddff760b980"), looks := false }, kinds := [], alts := [], laidByText := true, laidKinds := [.data], laidTests := true, laidLooks := .later }
def StatorForcesUptoCardSaid : Prop := Claim7.holds Tryd.pinned (.plain (OpenSpec.upto statorForcesSpec)) statorForcesUptoCard

/-- THE SECOND FORM's CARD OF 'guidewaylaw03.StatorBoth'. -/
def statorBothUptoCard : Claim7 := { stood := { row := statorBothUptoRow, standIns := [], harness := (true, "fa2e95eb02e20652230cc4018f4fad09d41e1061f2dee2a3f5771ddff760b980"), looks := false }, kinds := [], alts := [], laidByText := true, laidKinds := [.data], laidTests := true, laidLooks := .later }
def StatorBothUptoCardSaid : Prop := Claim7.holds Tryd.pinned (.plain (OpenSpec.upto statorBothSpec)) statorBothUptoCard

/-- THE SECOND FORM's CARD OF 'guidewaylaw03.StatorTracks'. -/
def statorTracksUptoCard : Claim7 := { stood := { row := statorTracksUptoRow, standIns := [], harness := (true, "fa2e95eb02e20652230cc4018f4fad09d41e1061f2dee2a3f5771ddff760b980"), looks := false }, kinds := [], alts := [], laidByText := true, laidKinds := [.data], laidTests := true, laidLooks := .later }
def StatorTracksUptoCardSaid : Prop := Claim7.holds Tryd.pinned (.plain (OpenSpec.upto statorTracksSpec)) statorTracksUptoCard

/-- THE SECOND FORM's CARD OF 'guidewaylaw03.StatorOnTrack'. -/
def statorOnTrackUptoCard : Claim7 := { stood := { row := statorOnTrackUptoRow, standIns := [], harness := (true, "fa2e95eb02e20652230cc4018f4fad09d41e1061f2dee2a3f5771ddff760b980"), looks := false }, kinds := [], alts := [], laidByText := true, laidKinds := [.data], laidTests := true, laidLooks := .later }
def StatorOnTrackUptoCardSaid : Prop := Claim7.holds Tryd.pinned (.plain (OpenSpec.upto statorOnTrackSpec)) statorOnTrackUptoCard

/-- THE SECOND FORM's CARD OF 'guidewaylaw03.StatorNoStep'. -/
def statorNoStepUptoCard : Claim7 := { stood := { row := statorNoStepUptoRow, standIns := [], harness := (true, "fa2e95eb02e20652230cc4018f4fad09d41e1061f2dee2a3f5771ddff760b980"), looks := false }, kinds := [], alts := [], laidByText := true, laidKinds := [.data], laidTests := true, laidLooks := .later }
def StatorNoStepUptoCardSaid : Prop := Claim7.holds Tryd.pinned (.plain (OpenSpec.upto statorNoStepSpec)) statorNoStepUptoCard

/-- THE SECOND FORM's CARD OF 'guidewaylaw03.StatorChanges'. -/
def statorChangesUptoCard : Claim7 := { stood := { row := statorChangesUptoRow, standIns := [], harness := (true, "fa2e95eb02e20652230cc4018f4fad09d41e1061f2dee2a3f5771ddff760b980"), looks := false }, kinds := [], alts := [], laidByText := true, laidKinds := [.data], laidTests := true, laidLooks := .later }
def StatorChangesUptoCardSaid : Prop := Claim7.holds Tryd.pinned (.plain (OpenSpec.upto statorChangesSpec)) statorChangesUptoCard

/-- THE SECOND FORM's CARD OF 'guidewaylaw03.StatorEven'. -/
def statorEvenUptoCard : Claim7 := { stood := { row := statorEvenUptoRow, standIns := [], harness := (true, "fa2e95eb02e20652230cc4018f4fad09d41e1061f2dee2a3f5771ddff760b980"), looks := false }, kinds := [], alts := [], laidByText := true, laidKinds := [.data], laidTests := true, laidLooks := .later }
def StatorEvenUptoCardSaid : Prop := Claim7.holds Tryd.pinned (.plain (OpenSpec.upto statorEvenSpec)) statorEvenUptoCard

/-- THE SECOND FORM's CARD OF 'guidewaylaw03.StatorOrders'. -/
def statorOrdersUptoCard : Claim7 := { stood := { row := statorOrdersUptoRow, standIns := [], harness := (true, "fa2e95eb02e20652230cc4018f4fad09d41e1061f2dee2a3f5771ddff760b980"), looks := false }, kinds := [], alts := [], laidByText := true, laidKinds := [.data], laidTests := true, laidLooks := .later }
def StatorOrdersUptoCardSaid : Prop := Claim7.holds Tryd.pinned (.plain (OpenSpec.upto statorOrdersSpec)) statorOrdersUptoCard

/-- THE SECOND FORM's CARD OF 'guidewaylaw03.StatorHarmonics'. -/
def statorHarmonicsUptoCard : Claim7 := { stood := { row := statorHarmonicsUptoRow, standIns := [], harness := (true, "fa2e95eb02e20652230cc4018f4fad09d41e1061f2dee2a3f5771ddff760b980"), looks := false }, kinds := [], alts := [], laidByText := true, laidKinds := [.data], laidTests := true, laidLooks := .later }
def StatorHarmonicsUptoCardSaid : Prop := Claim7.holds Tryd.pinned (.plain (OpenSpec.upto statorHarmonicsSpec)) statorHarmonicsUptoCard

/-- THE SECOND FORM's CARD OF 'guidewaylaw03.StatorStates'. -/
def statorStatesUptoCard : Claim7 := { stood := { row := statorStatesUptoRow, standIns := [], harness := (true, "fa2e95eb02e20652230cc4018f4fad09d41e1061f2dee2a3f5771ddff760b980"), looks := false }, kinds := [], alts := [], laidByText := true, laidKinds := [.data], laidTests := true, laidLooks := .later }
def StatorStatesUptoCardSaid : Prop := Claim7.holds Tryd.pinned (.plain (OpenSpec.upto statorStatesSpec)) statorStatesUptoCard
end Rows
end Go.Proofs.YtnkfkponlnpgeaaDoor
