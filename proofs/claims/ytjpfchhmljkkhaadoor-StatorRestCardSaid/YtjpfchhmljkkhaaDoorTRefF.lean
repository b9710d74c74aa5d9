
/-
  The walks of the reference's functions of forces and margins.
-/
import Derived.Test.YtjpfchhmljkkhaaDoorTMar
namespace Go.Proofs.YtjpfchhmljkkhaaDoor
open Go.RowKit

end Go.Proofs.YtjpfchhmljkkhaaDoor
