
/-
  The walk of the reference's IsNear.
-/
import Derived.Test.YtohldmmfnjfgmaaDoorTLeaf
import Derived.Test.YtohldmmfnjfgmaaDoorTPm
namespace Go.Proofs.YtohldmmfnjfgmaaDoor
open Go.RowKit

set_option maxHeartbeats 800000 in
theorem refIsNear_any (M : Int) (hM : 1 ≤ M ∧ M ≤ 100000) (v : T3) (hv : v.Bd 100000000) (w : World) : Calls Tryd.prog 27 #[.int .i64 M, (.agg #[.int .i64 v.a, .int .i64 v.b])] w fun e w' => e = .returned (.bool (nearB M v)) ∧ Below w.heap.size w w' := by
  have hb := box1 w #[.int .i64 v.a, .int .i64 v.b] 24
  obtain ⟨a0, a1, b0, b1⟩ := hv
  obtain ⟨m0, m1⟩ := hM
  cases h1 : inB (2 * v.a - v.b) (-M) M <;> cases h2 : inB (2 * v.b - v.a) (-M) M <;> cases h3 : inB (v.a + v.b) (-M) M
  all_goals
    go_enter Tryd.func27, Tryd.ntmps27
    go_wp2_with (go_at_call 59; refine (refsize_any _ _ (by omega) (by omega) _).mono ?_; rintro e w' ⟨rfl, rfl⟩)
    go_ret
    exact ⟨ret_bool (by simp [nearB, h1, h2, h3]), hb⟩
end Go.Proofs.YtohldmmfnjfgmaaDoor
