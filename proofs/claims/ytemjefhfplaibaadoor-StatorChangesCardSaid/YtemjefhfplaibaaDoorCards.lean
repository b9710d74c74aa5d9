/-
  DERIVED. GIVEN WITH THE SEED: THE CARDS: each row of YtemjefhfplaibaaDoorRows.lean that lists a variable, with what it lists TIED to the program's text (the seventh form; the later family's looks); each row that meets fmt, with fmt's text TOLD by the authors' own Lean function (tested against real Go, not proved from fmt's source: count such statements apart). THE CARD IS WHAT COUNTS. Prove the row's statement (the work); the ties are given (YtemjefhfplaibaaDoorTie.lean); close each card by the builder's one call (the guide's Derived/Test/ToyasCard.lean, 'card_holds'). Laid BY PROGRAM, IN A SANDBOX (cutbox-door.mjs). By AI agents, Wed Nov 11 2026. No macro, syntax, notation, axiom, sorry.
-/
import Derived.Test.YtemjefhfplaibaaDoorRows
import GoSem.ClaimSeven
namespace Go.Proofs.YtemjefhfplaibaaDoor
namespace Rows

/-- THE TIED CARD OF 'guidewaylaw03.StatorVectors'. -/
def statorVectorsCard : Claim7 := { stood := { row := statorVectorsRow, standIns := [], harness := (true, "e589d4fa7b7751c95ae2dc68a7941f1f512b16de15a1088f08e0e52a429da89c"), looks := false }, kinds := [], alts := [], laidByText := true, laidKinds := [.data], laidTests := true, laidLooks := .later }
def StatorVectorsCardSaid : Prop := Claim7.holds Tryd.pinned (.plain (OpenSpec.ofChange statorVectorsSpec)) statorVectorsCard

/-- THE TIED CARD OF 'guidewaylaw03.StatorBoth'. -/
def statorBothCard : Claim7 := { stood := { row := statorBothRow, standIns := [], harness := (true, "e589d4fa7b7751c95ae2dc68a7941f1f512b16de15a1088f08e0e52a429da89c"), looks := false }, kinds := [], alts := [], laidByText := true, laidKinds := [.data], laidTests := true, laidLooks := .later }
def StatorBothCardSaid : Prop := Claim7.holds Tryd.pinned (.plain (OpenSpec.ofChange statorBothSpec)) statorBothCard

/-- THE TIED CARD OF 'guidewaylaw03.StatorTracks'. -/
def statorTracksCard : Claim7 := { stood := { row := statorTracksRow, standIns := [], harness := (true, "e589d4fa7b7751c95ae2dc68a7941f1f512b16de15a1088f08e0e52a429da89c"), looks := false }, kinds := [], alts := [], laidByText := true, laidKinds := [.data], laidTests := true, laidLooks := .later }
def StatorTracksCardSaid : Prop := Claim7.holds Tryd.pinned (.plain (OpenSpec.ofChange statorTracksSpec)) statorTracksCard

/-- THE TIED CARD OF 'guidewaylaw03.StatorOnTrack'. -/
def statorOnTrackCard : Claim7 := { stood := { row := statorOnTrackRow, standIns := [], harness := (true, "e589d4fa7b7751c95ae2dc68a7941f1f512b16de15a1088f08e0e52a429da89c"), looks := false }, kinds := [], alts := [], laidByText := true, laidKinds := [.data], laidTests := true, laidLooks := .later }
def StatorOnTrackCardSaid : Prop := Claim7.holds Tryd.pinned (.plain (OpenSpec.ofChange statorOnTrackSpec)) statorOnTrackCard

/-- THE TIED CARD OF 'guidewaylaw03.StatorNoStep'. -/
def statorNoStepCard : Claim7 := { stood := { row := statorNoStepRow, standIns := [], harness := (true, "e589d4fa7b7751c95ae2dc68a7941f1f512b16de15a1088f08e0e52a429da89c"), looks := false }, kinds := [], alts := [], laidByText := true, laidKinds := [.data], laidTests := true, laidLooks := .later }
def StatorNoStepCardSaid : Prop := Claim7.holds Tryd.pinned (.plain (OpenSpec.ofChange statorNoStepSpec)) statorNoStepCard

/-- THE TIED CARD OF 'guidewaylaw03.StatorChanges'. -/
def statorChangesCard : Claim7 := { stood := { row := statorChangesRow, standIns := [], harness := (true, "e589d4fa7b7751c95ae2dc68a7941f1f512b16de15a1088f08e0e52a429da89c"), looks := false }, kinds := [], alts := [], laidByText := true, laidKinds := [.data], laidTests := true, laidLooks := .later }
def StatorChangesCardSaid : Prop := Claim7.holds Tryd.pinned (.plain (OpenSpec.ofChange statorChangesSpec)) statorChangesCard

/-- THE TIED CARD OF 'guidewaylaw03.StatorEven'. -/
def statorEvenCard : Claim7 := { stood := { row := statorEvenRow, standIns := [], harness := (true, "e589d4fa7b7751c95ae2dc68a7941f1f512b16de15a1088f08e0e52a429da89c"), looks := false }, kinds := [], alts := [], laidByText := true, laidKinds := [.data], laidTests := true, laidLooks := .later }
def StatorEvenCardSaid : Prop := Claim7.holds Tryd.pinned (.plain (OpenSpec.ofChange statorEvenSpec)) statorEvenCard

/-- THE TIED CARD OF 'guidewaylaw03.StatorOrders'. -/
def statorOrdersCard : Claim7 := { stood := { row := statorOrdersRow, standIns := [], harness := (true, "e589d4fa7b7751c95ae2dc68a7941f1f512b16de15a1088f08e0e52a429da89c"), looks := false }, kinds := [], alts := [], laidByText := true, laidKinds := [.data], laidTests := true, laidLooks := .later }
def StatorOrdersCardSaid : Prop := Claim7.holds Tryd.pinned (.plain (OpenSpec.ofChange statorOrdersSpec)) statorOrdersCard

/-- THE TIED CARD OF 'guidewaylaw03.StatorHarmonics'. -/
def statorHarmonicsCard : Claim7 := { stood := { row := statorHarmonicsRow, standIns := [], harness := (true, "e589d4fa7b7751c95ae2dc68a7941f1f512b16de15a1088f08e0e52a429da89c"), looks := false }, kinds := [], alts := [], laidByText := true, laidKinds := [.data], laidTests := true, laidLooks := .later }
def StatorHarmonicsCardSaid : Prop := Claim7.holds Tryd.pinned (.plain (OpenSpec.ofChange statorHarmonicsSpec)) statorHarmonicsCard

/-- THE SECOND FORM's CARD OF 'guidewaylaw03.StatorVectors'. -/
def statorVectorsUptoCard : Claim7 := { stood := { row := statorVectorsUptoRow, standIns := [], harness := (true, "e589d4fa7b7751c95ae2dc68a7941f1f512b16de15a1088f08e0e52a429da89c"), looks := false }, kinds := [], alts := [], laidByText := true, laidKinds := [.data], laidTests := true, laidLooks := .later }
def StatorVectorsUptoCardSaid : Prop := Claim7.holds Tryd.pinned (.plain (OpenSpec.upto statorVectorsSpec)) statorVectorsUptoCard

/-- THE SECOND FORM's CARD OF 'guidewaylaw03.StatorBoth'. -/
def statorBothUptoCard : Claim7 := { stood := { row := statorBothUptoRow, standIns := [], harness := (true, "e589d4fa7b7751c95ae2dc68a7941f1f512b16de15a1088f08e0e52a429da89c"), looks := false }, kinds := [], alts := [], laidByText := true, laidKinds := [.data], laidTests := true, laidLooks := .later }
def StatorBothUptoCardSaid : Prop := Claim7.holds Tryd.pinned (.plain (OpenSpec.upto statorBothSpec)) statorBothUptoCard

/-- THE SECOND FORM's CARD OF 'guidewaylaw03.StatorTracks'. -/
def statorTracksUptoCard : Claim7 := { stood := { row := statorTracksUptoRow, standIns := [], harness := (true, "e589d4fa7b7751c95ae2dc68a7941f1f512b16de15a1088f08e0e52a429da89c"), looks := false }, kinds := [], alts := [], laidByText := true, laidKinds := [.data], laidTests := true, laidLooks := .later }
def StatorTracksUptoCardSaid : Prop := Claim7.holds Tryd.pinned (.plain (OpenSpec.upto statorTracksSpec)) statorTracksUptoCard

/-- THE SECOND FORM's CARD OF 'guidewaylaw03.StatorOnTrack'. -/
def statorOnTrackUptoCard : Claim7 := { stood := { row := statorOnTrackUptoRow, standIns := [], harness := (true, "e589d4fa7b7751c95ae2dc68a7941f1f512b16de15a1088f08e0e52a429da89c"), looks := false }, kinds := [], alts := [], laidByText := true, laidKinds := [.data], laidTests := true, laidLooks := .later }
def StatorOnTrackUptoCardSaid : Prop := Claim7.holds Tryd.pinned (.plain (OpenSpec.upto statorOnTrackSpec)) statorOnTrackUptoCard

/-- THE SECOND FORM's CARD OF 'guidewaylaw03.StatorNoStep'. -/
def statorNoStepUptoCard : Claim7 := { stood := { row := statorNoStepUptoRow, standIns := [], harness := (true, "e589d4fa7b7751c95ae2dc68a7941f1f512b16de15a1088f08e0e52a429da89c"), looks := false }, kinds := [], alts := [], laidByText := true, laidKinds := [.data], laidTests := true, laidLooks := .later }
def StatorNoStepUptoCardSaid : Prop := Claim7.holds Tryd.pinned (.plain (OpenSpec.upto statorNoStepSpec)) statorNoStepUptoCard

/-- THE SECOND FORM's CARD OF 'guidewaylaw03.StatorChanges'. -/
def statorChangesUptoCard : Claim7 := { stood := { row := statorChangesUptoRow, standIns := [], harness := (true, "e589d4fa7b7751c95ae2dc68a7941f1f512b16de15a1088f08e0e52a429da89c"), looks := false }, kinds := [], alts := [], laidByText := true, laidKinds := [.data], laidTests := true, laidLooks := .later }
def StatorChangesUptoCardSaid : Prop := Claim7.holds Tryd.pinned (.plain (OpenSpec.upto statorChangesSpec)) statorChangesUptoCard

/-- THE SECOND FORM's CARD OF 'guidewaylaw03.StatorEven'. -/
def statorEvenUptoCard : Claim7 := { stood := { row := statorEvenUptoRow, standIns := [], harness := (true, "e589d4fa7b7751c95ae2dc68a7941f1f512b16de15a1088f08e0e52a429da89c"), looks := false }, kinds := [], alts := [], laidByText := true, laidKinds := [.data], laidTests := true, laidLooks := .later }
def StatorEvenUptoCardSaid : Prop := Claim7.holds Tryd.pinned (.plain (OpenSpec.upto statorEvenSpec)) statorEvenUptoCard

/-- THE SECOND FORM's CARD OF 'guidewaylaw03.StatorOrders'. -/
def statorOrdersUptoCard : Claim7 := { stood := { row := statorOrdersUptoRow, standIns := [], harness := (true, "e589d4fa7b7751c95ae2dc68a7941f1f512b16de15a1088f08e0e52a429da89c"), looks := false }, kinds := [], alts := [], laidByText := true, laidKinds := [.data], laidTests := true, laidLooks := .later }
def StatorOrdersUptoCardSaid : Prop := Claim7.holds Tryd.pinned (.plain (OpenSpec.upto statorOrdersSpec)) statorOrdersUptoCard

/-- THE SECOND FORM's CARD OF 'guidewaylaw03.StatorHarmonics'. -/
def statorHarmonicsUptoCard : Claim7 := { stood := { row := statorHarmonicsUptoRow, standIns := [], harness := (true, "e589d4fa7b7751c95ae2dc68a7941f1f512b16de15a1088f08e0e52a429da89c"), looks := false }, kinds := [], alts := [], laidByText := true, laidKinds := [.data], laidTests := true, laidLooks := .later }
def StatorHarmonicsUptoCardSaid : Prop := Claim7.holds Tryd.pinned (.plain (OpenSpec.upto statorHarmonicsSpec)) statorHarmonicsUptoCard
end Rows
end Go.Proofs.YtemjefhfplaibaaDoor
