/-
  The walks of small functions that take structs, or reckon with quotients; names.
-/
import Derived.Test.YtmnlgeglmkdecaaLeaf
namespace Go.Proofs.Ytmnlgeglmkdecaa
open Go.RowKit

set_option maxHeartbeats 400000 in
theorem checkJoint_any (j : Lj) (w : World) : Calls Try.prog 76 #[.agg #[.int .i64 j.x, .int .i64 j.u, .int .i64 j.lo, .int .i64 j.hi]] w fun e w' => e = .returned (.int .i64 (jErr j)) ∧ Below w.heap.size w w' := by
  have hb := (Below.refl w.heap.size w).alloc (Nat.le_refl _) (.cells #[.int .i64 j.x, .int .i64 j.u, .int .i64 j.lo, .int .i64 j.hi] 56)
  cases h1 : inB j.x (-20000) 20000 <;> cases h2 : inB j.u (-20000) 20000 <;> cases h3 : inB j.lo (-100) 100 <;> cases h4 : inB j.hi (-100) 100 <;> by_cases h5 : j.hi < j.lo
  all_goals
    go_enter Try.func76, Try.ntmps76
    go_wp2_with (go_at_call 126; refine (exceeds_any _ _ (by omega) (by omega) _).mono ?_; rintro e w' ⟨rfl, rfl⟩)
    go_ret
    exact ⟨ret_i64 (by simp [jErr, h1, h2, h3, h4, h5]), hb⟩

set_option maxHeartbeats 400000 in
theorem checkBeam_any (b : Lb) (w : World) : Calls Try.prog 77 #[.agg #[.int .i64 b.len, .int .i64 b.cant]] w fun e w' => e = .returned (.int .i64 (bErr b)) ∧ Below w.heap.size w w' := by
  have hb := (Below.refl w.heap.size w).alloc (Nat.le_refl _) (.cells #[.int .i64 b.len, .int .i64 b.cant] 59)
  cases h1 : inB b.len 1000 30000 <;> cases h2 : inB b.cant (-300) 300
  all_goals
    go_enter Try.func77, Try.ntmps77
    go_wp2_with (first | (go_at_call 126; refine (exceeds_any _ _ (by omega) (by omega) _).mono ?_; rintro e w' ⟨rfl, rfl⟩) | (go_at_call 110; refine (within_any _ _ _ _).mono ?_; rintro e w' ⟨rfl, rfl⟩))
    go_ret
    exact ⟨ret_i64 (by simp [bErr, h1, h2]), hb⟩

set_option maxHeartbeats 400000 in
theorem size_any (x : Int) (h : -9223372036854775807 ≤ x) (h' : x ≤ 9223372036854775807) (w : World) : Calls Try.prog 95 #[.int .i64 x] w fun e w' => e = .returned (.int .i64 (max x (-x))) ∧ w = w' := by
  go_enter Try.func95, Try.ntmps95
  go_wp2
  all_goals
    go_ret
    exact ⟨ret_i64 (by omega), rfl⟩

set_option maxHeartbeats 400000 in
theorem Size_any (x : Int) (h : -9223372036854775807 ≤ x) (h' : x ≤ 9223372036854775807) (w : World) : Calls Try.prog 100 #[.int .i64 x] w fun e w' => e = .returned (.int .i64 (max x (-x))) ∧ w = w' := by
  go_enter Try.func100, Try.ntmps100
  go_wp2
  all_goals
    go_ret
    exact ⟨ret_i64 (by omega), rfl⟩

theorem floor_of {a b : Int} (hb : 1 ≤ b) (h : a.tmod b < 0) : a / b = a.tdiv b - 1 := by
  have h1 := Int.emod_nonneg a (show b ≠ 0 by omega)
  rw [Int.tmod_eq_emod] at h
  rw [Int.tdiv_eq_ediv]
  split at h
  · omega
  · rename_i hh
    rw [if_neg hh, Int.sign_eq_one_of_pos (by omega)]; omega
theorem floor_of' {a b : Int} (hb : 1 ≤ b) (h : ¬ a.tmod b < 0) : a / b = a.tdiv b := by
  have h1 := Int.emod_lt_of_pos a (show 0 < b by omega)
  rw [Int.tmod_eq_emod] at h
  rw [Int.tdiv_eq_ediv]
  split at h
  · rename_i hh
    rw [if_pos hh]; omega
  · omega

set_option maxHeartbeats 400000 in
theorem few_any (n most limit : Int) (h : 0 ≤ limit) (h' : limit ≤ 1000) (w : World) : Calls Try.prog 74 #[.int .i64 n, .int .i64 most, .int .i64 limit] w fun e w' => e = .returned (.bool (fewB n most limit)) ∧ w = w' := by
  by_cases h1 : n ≤ most <;> by_cases h2 : limit < n <;> by_cases h3 : n ≤ limit + 3
  all_goals
    go_enter Try.func74, Try.ntmps74
    go_wp2
    go_ret
    exact ⟨ret_bool (by simp [fewB, h1, h2, h3]), rfl⟩

set_option maxHeartbeats 400000 in
theorem CheckVehicle_any (v : Lv) (w : World) : Calls Try.prog 53 #[.agg #[.int .i64 v.len, .int .i64 v.clear, .int .i64 v.step]] w fun e w' => e = .returned (.int .i64 (vErr v)) ∧ Below w.heap.size w w' := by
  have hb := (Below.refl w.heap.size w).alloc (Nat.le_refl _) (.cells #[.int .i64 v.len, .int .i64 v.clear, .int .i64 v.step] 77)
  cases h1 : inB v.len 1000 30000 <;> cases h2 : inB v.clear 0 1000 <;> cases h3 : inB v.step 100 30000
  all_goals
    go_enter Try.func53, Try.ntmps53
    go_wp2_with (go_at_call 110; refine (within_any _ _ _ _).mono ?_; rintro e w' ⟨rfl, rfl⟩)
    go_ret
    exact ⟨ret_i64 (by simp [vErr, h1, h2, h3]), hb⟩

set_option maxHeartbeats 400000 in
theorem VehicleErr_any (v : Lv) (w : World) : Calls Try.prog 55 #[.agg #[.int .i64 v.len, .int .i64 v.clear, .int .i64 v.step]] w fun e w' => e = .returned (.int .i64 (vErr v)) ∧ Below w.heap.size w w' := by
  have hb := (Below.refl w.heap.size w).alloc (Nat.le_refl _) (.cells #[.int .i64 v.len, .int .i64 v.clear, .int .i64 v.step] 77)
  cases h1 : inB v.len 1000 30000 <;> cases h2 : inB v.clear 0 1000 <;> cases h3 : inB v.step 100 30000
  all_goals
    go_enter Try.func55, Try.ntmps55
    go_wp2_with (go_at_call 34; refine (Within_any _ _ _ _).mono ?_; rintro e w' ⟨rfl, rfl⟩)
    go_ret
    exact ⟨ret_i64 (by simp [vErr, h1, h2, h3]), hb⟩

end Go.Proofs.Ytmnlgeglmkdecaa
