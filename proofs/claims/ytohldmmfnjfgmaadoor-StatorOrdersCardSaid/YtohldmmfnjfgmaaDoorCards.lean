/-
  DERIVED. GIVEN WITH THE SEED: THE CARDS: each row of YtohldmmfnjfgmaaDoorRows.lean that lists a variable, with what it lists TIED to the program's text (the seventh form; the later family's looks); each row that meets fmt, with fmt's text TOLD by the authors' own Lean function (tested against real Go, not proved from fmt's source: count such statements apart). THE CARD IS WHAT COUNTS. Prove the row's statement (the work); the ties are given (YtohldmmfnjfgmaaDoorTie.lean); close each card by the builder's one call (the guide's Derived/Test/ToyasCard.lean, 'card_holds'). Laid BY PROGRAM, IN A SANDBOX (cutbox-door.mjs). By AI agents, Wed Nov 11 2026. No macro, syntax, notation, axiom, sorry.
-/
import Derived.Test.YtohldmmfnjfgmaaDoorRows
import GoSem.ClaimSeven
namespace Go.Proofs.YtohldmmfnjfgmaaDoor
namespace Rows

/-- THE TIED CARD OF 'guidewaylaw03.StatorOrders'. -/
def statorOrdersCard : Claim7 := { stood := { row := statorOrdersRow, standIns := [], harness := (true, "c1883fc9c422278a243b1316bb9bbcaa65644b32250cb7d3b26c2aa017c17ce6"), looks := false }, kinds := [], alts := [], laidByText := true, laidKinds := [.data], laidTests := true, laidLooks := .later }
def StatorOrdersCardSaid : Prop := Claim7.holds Tryd.pinned (.plain (OpenSpec.ofChange statorOrdersSpec)) statorOrdersCard

/-- THE TIED CARD OF 'guidewaylaw03.StatorHarmonics'. -/
def statorHarmonicsCard : Claim7 := { stood := { row := statorHarmonicsRow, standIns := [], harness := (true, "c1883fc9c422278a243b1316bb9bbcaa65644b32250cb7d3b26c2aa017c17ce6"), looks := false }, kinds := [], alts := [], laidByText := true, laidKinds := [.data], laidTests := true, laidLooks := .later }
def StatorHarmonicsCardSaid : Prop := Claim7.holds Tryd.pinned (.plain (OpenSpec.ofChange statorHarmonicsSpec)) statorHarmonicsCard

/-- THE TIED CARD OF 'guidewaylaw03.StatorStates'. -/
def statorStatesCard : Claim7 := { stood := { row := statorStatesRow, standIns := [], harness := (true, "c1883fc9c422278a243b1316bb9bbcaa65644b32250cb7d3b26c2aa017c17ce6"), looks := false }, kinds := [], alts := [], laidByText := true, laidKinds := [.data], laidTests := true, laidLooks := .later }
def StatorStatesCardSaid : Prop := Claim7.holds Tryd.pinned (.plain (OpenSpec.ofChange statorStatesSpec)) statorStatesCard

/-- THE TIED CARD OF 'guidewaylaw03.StatorBooks'. -/
def statorBooksCard : Claim7 := { stood := { row := statorBooksRow, standIns := [], harness := (true, "c1883fc9c422278a243b1316bb9bbcaa65644b32250cb7d3b26c2aa017c17ce6"), looks := false }, kinds := [], alts := [], laidByText := true, laidKinds := [.data], laidTests := true, laidLooks := .later }
def StatorBooksCardSaid : Prop := Claim7.holds Tryd.pinned (.plain (OpenSpec.ofChange statorBooksSpec)) statorBooksCard

/-- THE TIED CARD OF 'guidewaytop.TopStatorNoStep'. -/
def topStatorNoStepCard : Claim7 := { stood := { row := topStatorNoStepRow, standIns := [], harness := (true, "c1883fc9c422278a243b1316bb9bbcaa65644b32250cb7d3b26c2aa017c17ce6"), looks := false }, kinds := [], alts := [], laidByText := true, laidKinds := [.data], laidTests := true, laidLooks := .later }
def TopStatorNoStepCardSaid : Prop := Claim7.holds Tryd.pinned (.plain (OpenSpec.ofChange topStatorNoStepSpec)) topStatorNoStepCard

/-- THE TIED CARD OF 'guidewaytop.TopStatorPulsesDrive'. -/
def topStatorPulsesDriveCard : Claim7 := { stood := { row := topStatorPulsesDriveRow, standIns := [], harness := (true, "c1883fc9c422278a243b1316bb9bbcaa65644b32250cb7d3b26c2aa017c17ce6"), looks := false }, kinds := [], alts := [], laidByText := true, laidKinds := [.data], laidTests := true, laidLooks := .later }
def TopStatorPulsesDriveCardSaid : Prop := Claim7.holds Tryd.pinned (.plain (OpenSpec.ofChange topStatorPulsesDriveSpec)) topStatorPulsesDriveCard

/-- THE SECOND FORM's CARD OF 'guidewaylaw03.StatorOrders'. -/
def statorOrdersUptoCard : Claim7 := { stood := { row := statorOrdersUptoRow, standIns := [], harness := (true, "c1883fc9c422278a243b1316bb9bbcaa65644b32250cb7d3b26c2aa017c17ce6"), looks := false }, kinds := [], alts := [], laidByText := true, laidKinds := [.data], laidTests := true, laidLooks := .later }
def StatorOrdersUptoCardSaid : Prop := Claim7.holds Tryd.pinned (.plain (OpenSpec.upto statorOrdersSpec)) statorOrdersUptoCard

/-- THE SECOND FORM's CARD OF 'guidewaylaw03.StatorHarmonics'. -/
def statorHarmonicsUptoCard : Claim7 := { stood := { row := statorHarmonicsUptoRow, standIns := [], harness := (true, "c1883fc9c422278a243b1316bb9bbcaa65644b32250cb7d3b26c2aa017c17ce6"), looks := false }, kinds := [], alts := [], laidByText := true, laidKinds := [.data], laidTests := true, laidLooks := .later }
def StatorHarmonicsUptoCardSaid : Prop := Claim7.holds Tryd.pinned (.plain (OpenSpec.upto statorHarmonicsSpec)) statorHarmonicsUptoCard

/-- THE SECOND FORM's CARD OF 'guidewaylaw03.StatorStates'. -/
def statorStatesUptoCard : Claim7 := { stood := { row := statorStatesUptoRow, standIns := [], harness := (true, "c1883fc9c422278a243b1316bb9bbcaa65644b32250cb7d3b26c2aa017c17ce6"), looks := false }, kinds := [], alts := [], laidByText := true, laidKinds := [.data], laidTests := true, laidLooks := .later }
def StatorStatesUptoCardSaid : Prop := Claim7.holds Tryd.pinned (.plain (OpenSpec.upto statorStatesSpec)) statorStatesUptoCard

/-- THE SECOND FORM's CARD OF 'guidewaylaw03.StatorBooks'. -/
def statorBooksUptoCard : Claim7 := { stood := { row := statorBooksUptoRow, standIns := [], harness := (true, "c1883fc9c422278a243b1316bb9bbcaa65644b32250cb7d3b26c2aa017c17ce6"), looks := false }, kinds := [], alts := [], laidByText := true, laidKinds := [.data], laidTests := true, laidLooks := .later }
def StatorBooksUptoCardSaid : Prop := Claim7.holds Tryd.pinned (.plain (OpenSpec.upto statorBooksSpec)) statorBooksUptoCard

/-- THE SECOND FORM's CARD OF 'guidewaytop.TopStatorNoStep'. -/
def topStatorNoStepUptoCard : Claim7 := { stood := { row := topStatorNoStepUptoRow, standIns := [], harness := (true, "c1883fc9c422278a243b1316bb9bbcaa65644b32250cb7d3b26c2aa017c17ce6"), looks := false }, kinds := [], alts := [], laidByText := true, laidKinds := [.data], laidTests := true, laidLooks := .later }
def TopStatorNoStepUptoCardSaid : Prop := Claim7.holds Tryd.pinned (.plain (OpenSpec.upto topStatorNoStepSpec)) topStatorNoStepUptoCard

/-- THE SECOND FORM's CARD OF 'guidewaytop.TopStatorPulsesDrive'. -/
def topStatorPulsesDriveUptoCard : Claim7 := { stood := { row := topStatorPulsesDriveUptoRow, standIns := [], harness := (true, "c1883fc9c422278a243b1316bb9bbcaa65644b32250cb7d3b26c2aa017c17ce6"), looks := false }, kinds := [], alts := [], laidByText := true, laidKinds := [.data], laidTests := true, laidLooks := .later }
def TopStatorPulsesDriveUptoCardSaid : Prop := Claim7.holds Tryd.pinned (.plain (OpenSpec.upto topStatorPulsesDriveSpec)) topStatorPulsesDriveUptoCard
end Rows
end Go.Proofs.YtohldmmfnjfgmaaDoor
