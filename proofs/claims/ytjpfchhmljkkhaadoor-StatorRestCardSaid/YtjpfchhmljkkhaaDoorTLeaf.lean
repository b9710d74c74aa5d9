
/-
  The walks of the small functions of chapter 3 that only reckon.
-/
import Derived.Test.YtjpfchhmljkkhaaDoorKit
import Derived.Test.YtjpfchhmljkkhaaDoorTPl
import Derived.Test.YtjpfchhmljkkhaaDoorRows
import Derived.WalkLawsBesides
import Derived.BigQuiet
import Derived.Deep.QuietTactic
import Derived.Deep.LoopGhost
import Derived.Outline
import Derived.IntWalk
namespace Go.Proofs.YtjpfchhmljkkhaaDoor
open Go.RowKit


set_option maxHeartbeats 400000 in
theorem within_any (x lo hi : Int) (w : World) : Calls Tryd.prog 26 #[.int .i64 x, .int .i64 lo, .int .i64 hi] w fun e w' => e = .returned (.bool (inB x lo hi)) ∧ w = w' := by
  by_cases h1 : lo ≤ x <;> by_cases h2 : x ≤ hi
  all_goals
    go_enter Tryd.func26, Tryd.ntmps26
    go_wp2
    go_ret
    exact ⟨ret_bool (by simp [inB, h1, h2]), rfl⟩

set_option maxHeartbeats 400000 in
theorem Within_any (x lo hi : Int) (w : World) : Calls Tryd.prog 21 #[.int .i64 x, .int .i64 lo, .int .i64 hi] w fun e w' => e = .returned (.bool (inB x lo hi)) ∧ w = w' := by
  by_cases h1 : lo ≤ x <;> by_cases h2 : x ≤ hi
  all_goals
    go_enter Tryd.func21, Tryd.ntmps21
    go_wp2
    go_ret
    exact ⟨ret_bool (by simp [inB, h1, h2]), rfl⟩

set_option maxHeartbeats 400000 in
theorem size_any (x : Int) (h : -9223372036854775807 ≤ x) (h' : x ≤ 9223372036854775807) (w : World) : Calls Tryd.prog 30 #[.int .i64 x] w fun e w' => e = .returned (.int .i64 (max x (-x))) ∧ w = w' := by
  go_enter Tryd.func30, Tryd.ntmps30
  go_wp2
  all_goals
    go_ret
    exact ⟨ret_i64 (by omega), rfl⟩

set_option maxHeartbeats 400000 in
theorem refsize_any (x most : Int) (h : 0 ≤ most) (hm : most ≤ 1000000) (w : World) : Calls Tryd.prog 32 #[.int .i64 x, .int .i64 most] w fun e w' => e = .returned (.bool (inB x (-most) most)) ∧ w = w' := by
  go_enter Tryd.func32, Tryd.ntmps32
  go_wp2_with (go_at_call 21; refine (Within_any _ _ _ _).mono ?_; rintro e w' ⟨rfl, rfl⟩)
  go_ret
  exact ⟨rfl, rfl⟩

set_option maxHeartbeats 400000 in
theorem VectorErr_any (v : T3) (w : World) : Calls Tryd.prog 12 #[(.agg #[.int .i64 v.a, .int .i64 v.b])] w fun e w' => e = .returned (.int .i64 (vE v)) ∧ Below w.heap.size w w' := by
  have hb := (Below.refl w.heap.size w).alloc (Nat.le_refl _) (.cells #[.int .i64 v.a, .int .i64 v.b] 25)
  cases h1 : inB v.a (-100000) 100000 <;> cases h2 : inB v.b (-100000) 100000
  all_goals
    go_enter Tryd.func12, Tryd.ntmps12
    go_wp2_with (go_at_call 32; refine (refsize_any _ _ (by omega) (by omega) _).mono ?_; rintro e w' ⟨rfl, rfl⟩)
    go_ret
    exact ⟨ret_i64 (by simp [vE, okT, h1, h2]), hb⟩
end Go.Proofs.YtjpfchhmljkkhaaDoor
