
/-
  The walks of the reference's checks of tracks and trains.
-/
import Derived.Test.YtohldmmfnjfgmaaDoorTEven
import Derived.Test.YtohldmmfnjfgmaaDoorTOv
namespace Go.Proofs.YtohldmmfnjfgmaaDoor
open Go.RowKit

/-- The error of a train on a right track. -/
def trnE (ls : List Int) (p len : Int) : Int := if inB len 1 1000000 = false ∨ p < 0 then 2 else if p ≤ begV ls ls.length - len then 0 else 23
theorem plc_trn {ls : List Int} (h : (trkE ls).2 = 0) (p len : Int) : plcE ls p len = trnE ls p len := by unfold plcE trnE; rw [if_neg (by rw [h]; simp)]
theorem plc_trk {ls : List Int} (h : (trkE ls).2 ≠ 0) (p len : Int) : plcE ls p len = (trkE ls).2 := by unfold plcE; rw [if_pos h]
end Go.Proofs.YtohldmmfnjfgmaaDoor
