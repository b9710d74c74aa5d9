
/-
  The walks of the copy of a feed, of the reference's errors of a feed and of a move, and of its force on a train.
-/
import Derived.Test.YtohldmmfnjfgmaaDoorTCp
import Derived.Test.YtohldmmfnjfgmaaDoorTTrR
import Derived.Test.YtohldmmfnjfgmaaDoorTOvR
import Derived.Test.YtohldmmfnjfgmaaDoorTAt
namespace Go.Proofs.YtohldmmfnjfgmaaDoor
open Go.RowKit

/-- A copy of a feed. -/
def CopiedF (w : World) (l : List T3) (f : T3) (m : Int) (e : Ending) (w' : World) : Prop := ∃ g : Hd, e = .returned (.agg #[.slice g.A l.length g.c, .int .i64 f.a, .int .i64 f.b, .int .i64 m]) ∧ Lies w' w'.heap.size g.A (l.flatMap tc) ∧ HdOk g ∧ Below w.heap.size w w'
/-- The error of a feed on a right track. -/
def feE (ls : List Int) (cs : List T3) (fl : T3) : Int := if cs.length ≠ ls.length then 10 else if vsE cs ≠ 0 then vsE cs else vE fl
theorem fed_fe {ls : List Int} {p len : Int} (h : plcE ls p len = 0) (cs : List T3) (fl : T3) : fedE ls p len cs fl = feE ls cs fl := by unfold fedE feE; rw [if_neg (by rw [h]; simp)]
theorem fed_plc {ls : List Int} {p len : Int} (h : plcE ls p len ≠ 0) (cs : List T3) (fl : T3) : fedE ls p len cs fl = plcE ls p len := by unfold fedE; rw [if_pos h]
end Go.Proofs.YtohldmmfnjfgmaaDoor
