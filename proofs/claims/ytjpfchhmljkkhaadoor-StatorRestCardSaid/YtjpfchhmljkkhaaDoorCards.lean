/-
  DERIVED. GIVEN WITH THE SEED: THE CARDS: each row of YtjpfchhmljkkhaaDoorRows.lean that lists a variable, with what it lists TIED to the program's text (the seventh form; the later family's looks); each row that meets fmt, with fmt's text TOLD by the authors' own Lean function (tested against real Go, not proved from fmt's source: count such statements apart). THE CARD IS WHAT COUNTS. Prove the row's statement (the work); the ties are given (YtjpfchhmljkkhaaDoorTie.lean); close each card by the builder's one call (the guide's Derived/Test/ToyasCard.lean, 'card_holds'). Laid BY PROGRAM, IN A SANDBOX (cutbox-door.mjs). By AI agents, Wed Nov 11 2026. No macro, syntax, notation, axiom, sorry.
-/
import Derived.Test.YtjpfchhmljkkhaaDoorRows
import GoSem.ClaimSeven
namespace Go.Proofs.YtjpfchhmljkkhaaDoor
namespace Rows

/-- THE TIED CARD OF 'guidewaylaw03.StatorStates'. -/
def statorStatesCard : Claim7 := { stood := { row := statorStatesRow, standIns := [], harness := (true, "a9f26ef281473d4be0db99cef6aea9bf459c75b147997b2df9c9da2e899adb47"), looks := false }, kinds := [], alts := [], laidByText := true, laidKinds := [.data], laidTests := true, laidLooks := .later }
def StatorStatesCardSaid : Prop := Claim7.holds Tryd.pinned (.plain (OpenSpec.ofChange statorStatesSpec)) statorStatesCard

/-- THE TIED CARD OF 'guidewaylaw03.StatorRest'. -/
def statorRestCard : Claim7 := { stood := { row := statorRestRow, standIns := [], harness := (true, "a9f26ef281473d4be0db99cef6aea9bf459c75b147997b2df9c9da2e899adb47"), looks := false }, kinds := [], alts := [], laidByText := true, laidKinds := [.data], laidTests := true, laidLooks := .later }
def StatorRestCardSaid : Prop := Claim7.holds Tryd.pinned (.plain (OpenSpec.ofChange statorRestSpec)) statorRestCard

/-- THE SECOND FORM's CARD OF 'guidewaylaw03.StatorStates'. -/
def statorStatesUptoCard : Claim7 := { stood := { row := statorStatesUptoRow, standIns := [], harness := (true, "a9f26ef281473d4be0db99cef6aea9bf459c75b147997b2df9c9da2e899adb47"), looks := false }, kinds := [], alts := [], laidByText := true, laidKinds := [.data], laidTests := true, laidLooks := .later }
def StatorStatesUptoCardSaid : Prop := Claim7.holds Tryd.pinned (.plain (OpenSpec.upto statorStatesSpec)) statorStatesUptoCard

/-- THE SECOND FORM's CARD OF 'guidewaylaw03.StatorRest'. -/
def statorRestUptoCard : Claim7 := { stood := { row := statorRestUptoRow, standIns := [], harness := (true, "a9f26ef281473d4be0db99cef6aea9bf459c75b147997b2df9c9da2e899adb47"), looks := false }, kinds := [], alts := [], laidByText := true, laidKinds := [.data], laidTests := true, laidLooks := .later }
def StatorRestUptoCardSaid : Prop := Claim7.holds Tryd.pinned (.plain (OpenSpec.upto statorRestSpec)) statorRestUptoCard
end Rows
end Go.Proofs.YtjpfchhmljkkhaaDoor
