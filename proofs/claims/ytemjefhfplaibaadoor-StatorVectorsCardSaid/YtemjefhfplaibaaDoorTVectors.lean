
/-
  The walk of StatorVectors.
-/
import Derived.Test.YtemjefhfplaibaaDoorTAwk
import Derived.Test.YtemjefhfplaibaaDoorTRefF
import Derived.Test.YtemjefhfplaibaaDoorTSec2
import Derived.Test.YtemjefhfplaibaaDoorTVectorsA
import Derived.Test.YtemjefhfplaibaaDoorTVectorsB
import Derived.Test.YtemjefhfplaibaaDoorTVectorsC
import Derived.Test.YtemjefhfplaibaaDoorTVectorsD
namespace Go.Proofs.YtemjefhfplaibaaDoor
open Go.RowKit

theorem StatorVectors_any (x y z : Int) (v : T3) (w : World) (hT : Tab w) : Calls Tryd.prog 3 #[.agg #[.int .i64 x, .int .i64 y, .int .i64 z], (.agg #[.int .i64 v.a, .int .i64 v.b])] w fun e w' => e = .returned (.bool true) ∧ Below w.heap.size w w' := by
  obtain ⟨a, b⟩ := v
  cases hp : okP x y z with
  | false =>
    cases hv : okT ⟨a, b⟩ with
    | false => exact vectors_bad_bad x y z a b hp hv w hT
    | true =>
      by_cases ha : a = 0
      · subst ha
        by_cases hb : b = 0
        · subst hb; exact vectors_bad_zero x y z hp w hT
        · exact vectors_bad_nought x y z b hp hv hb w hT
      · exact vectors_bad_full x y z a b hp hv ha w hT
  | true =>
    cases hv : okT ⟨a, b⟩ with
    | false => exact vectors_ok_bad x y z a b hp hv w hT
    | true =>
      by_cases ha : a = 0
      · subst ha
        by_cases hb : b = 0
        · subst hb; exact vectors_ok_zero x y z hp w hT
        · exact vectors_ok_nought x y z b hp hv hb w hT
      · exact vectors_ok_full x y z a b hp hv ha w hT
end Go.Proofs.YtemjefhfplaibaaDoor
