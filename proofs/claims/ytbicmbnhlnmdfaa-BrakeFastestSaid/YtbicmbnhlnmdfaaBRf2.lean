
/-
  The walk of the reference's RunTo.
-/
import Derived.Test.YtbicmbnhlnmdfaaBRef
namespace Go.Proofs.Ytbicmbnhlnmdfaa
open Go.RowKit

end Go.Proofs.Ytbicmbnhlnmdfaa
