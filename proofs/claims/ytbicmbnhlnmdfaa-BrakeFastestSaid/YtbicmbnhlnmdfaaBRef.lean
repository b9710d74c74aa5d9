
/-
  The walks of the reference's CurveOf, LeastOf and RunTo.
-/
import Derived.Test.YtbicmbnhlnmdfaaBRun
namespace Go.Proofs.Ytbicmbnhlnmdfaa
open Go.RowKit

end Go.Proofs.Ytbicmbnhlnmdfaa
