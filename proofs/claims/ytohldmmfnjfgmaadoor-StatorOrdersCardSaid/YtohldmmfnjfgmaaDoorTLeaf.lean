
/-
  The walks of the small functions of chapter 3 that only reckon.
-/
import Derived.Test.YtohldmmfnjfgmaaDoorKit
import Derived.Test.YtohldmmfnjfgmaaDoorTPl
import Derived.Test.YtohldmmfnjfgmaaDoorRows
import Derived.WalkLawsBesides
import Derived.BigQuiet
import Derived.Deep.QuietTactic
import Derived.Deep.LoopGhost
import Derived.Outline
import Derived.IntWalk
namespace Go.Proofs.YtohldmmfnjfgmaaDoor
open Go.RowKit


set_option maxHeartbeats 400000 in
theorem within_any (x lo hi : Int) (w : World) : Calls Tryd.prog 60 #[.int .i64 x, .int .i64 lo, .int .i64 hi] w fun e w' => e = .returned (.bool (inB x lo hi)) ∧ w = w' := by
  by_cases h1 : lo ≤ x <;> by_cases h2 : x ≤ hi
  all_goals
    go_enter Tryd.func60, Tryd.ntmps60
    go_wp2
    go_ret
    exact ⟨ret_bool (by simp [inB, h1, h2]), rfl⟩

set_option maxHeartbeats 400000 in
theorem Within_any (x lo hi : Int) (w : World) : Calls Tryd.prog 18 #[.int .i64 x, .int .i64 lo, .int .i64 hi] w fun e w' => e = .returned (.bool (inB x lo hi)) ∧ w = w' := by
  by_cases h1 : lo ≤ x <;> by_cases h2 : x ≤ hi
  all_goals
    go_enter Tryd.func18, Tryd.ntmps18
    go_wp2
    go_ret
    exact ⟨ret_bool (by simp [inB, h1, h2]), rfl⟩

set_option maxHeartbeats 400000 in
theorem size_any (x : Int) (h : -9223372036854775807 ≤ x) (h' : x ≤ 9223372036854775807) (w : World) : Calls Tryd.prog 64 #[.int .i64 x] w fun e w' => e = .returned (.int .i64 (max x (-x))) ∧ w = w' := by
  go_enter Tryd.func64, Tryd.ntmps64
  go_wp2
  all_goals
    go_ret
    exact ⟨ret_i64 (by omega), rfl⟩

set_option maxHeartbeats 400000 in
theorem Size_any (x : Int) (h : -9223372036854775807 ≤ x) (h' : x ≤ 9223372036854775807) (w : World) : Calls Tryd.prog 50 #[.int .i64 x] w fun e w' => e = .returned (.int .i64 (max x (-x))) ∧ w = w' := by
  go_enter Tryd.func50, Tryd.ntmps50
  go_wp2
  all_goals
    go_ret
    exact ⟨ret_i64 (by omega), rfl⟩

set_option maxHeartbeats 400000 in
theorem refsize_any (x most : Int) (h : 0 ≤ most) (hm : most ≤ 1000000) (w : World) : Calls Tryd.prog 59 #[.int .i64 x, .int .i64 most] w fun e w' => e = .returned (.bool (inB x (-most) most)) ∧ w = w' := by
  go_enter Tryd.func59, Tryd.ntmps59
  go_wp2_with (go_at_call 18; refine (Within_any _ _ _ _).mono ?_; rintro e w' ⟨rfl, rfl⟩)
  go_ret
  exact ⟨rfl, rfl⟩

set_option maxHeartbeats 400000 in
theorem VectorErr_any (v : T3) (w : World) : Calls Tryd.prog 26 #[(.agg #[.int .i64 v.a, .int .i64 v.b])] w fun e w' => e = .returned (.int .i64 (vE v)) ∧ Below w.heap.size w w' := by
  have hb := (Below.refl w.heap.size w).alloc (Nat.le_refl _) (.cells #[.int .i64 v.a, .int .i64 v.b] 24)
  cases h1 : inB v.a (-100000) 100000 <;> cases h2 : inB v.b (-100000) 100000
  all_goals
    go_enter Tryd.func26, Tryd.ntmps26
    go_wp2_with (go_at_call 59; refine (refsize_any _ _ (by omega) (by omega) _).mono ?_; rintro e w' ⟨rfl, rfl⟩)
    go_ret
    exact ⟨ret_i64 (by simp [vE, okT, h1, h2]), hb⟩
end Go.Proofs.YtohldmmfnjfgmaaDoor
