
/-
  The walks of SectorOf at vectors that have a sector.
-/
import Derived.Test.YtohldmmfnjfgmaaDoorTSec
namespace Go.Proofs.YtohldmmfnjfgmaaDoor
open Go.RowKit

theorem Fr.third {w W : World} {v : T3} {g : Nat} {bs : List (Nat × TypeId × Array Value)} (h : Fr w W ((g, 24, #[.int .i64 v.a, .int .i64 v.b]) :: bs)) : W.cell? ⟨g, 0, none⟩ = some (.int .i64 v.a) ∧ W.cell? ⟨g, 1, none⟩ = some (.int .i64 v.b) := ⟨h.top.cell 0, h.top.cell 1⟩

end Go.Proofs.YtohldmmfnjfgmaaDoor
