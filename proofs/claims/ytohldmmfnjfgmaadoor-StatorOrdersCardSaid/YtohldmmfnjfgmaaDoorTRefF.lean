
/-
  The walks of the reference's functions of forces and margins.
-/
import Derived.Test.YtohldmmfnjfgmaaDoorTMar
namespace Go.Proofs.YtohldmmfnjfgmaaDoor
open Go.RowKit

end Go.Proofs.YtohldmmfnjfgmaaDoor
