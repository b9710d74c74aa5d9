/-
  The walks of quotients that are rounded, and of names.
-/
import Derived.Test.YtmnlgeglmkdecaaLeaf2
namespace Go.Proofs.Ytmnlgeglmkdecaa
open Go.RowKit

set_option maxHeartbeats 400000 in
theorem floor_any (a b : Int) (ha : -9223372036854775807 ≤ a) (ha' : a ≤ 9223372036854775807) (hb : 1 ≤ b) (hb' : b ≤ 9223372036854775807) (w : World) :
    Calls Try.prog 137 #[.int .i64 a, .int .i64 b] w fun e w' => e = .returned (.int .i64 (a / b)) ∧ w = w' := by
  have hz : (b == 0) = false := by simp; omega
  have hq : (a.tdiv b).natAbs ≤ a.natAbs := Int.natAbs_tdiv_le_natAbs a b
  have hq1 : -9223372036854775807 ≤ a.tdiv b := by omega
  have hq2 : a.tdiv b ≤ 9223372036854775807 := by omega
  clear hq
  by_cases h : a.tmod b < 0
  · have Hr := Lib.hid (floor_of hb h)
    go_enter Try.func137, Try.ntmps137
    go_wp2
    go_ret
    exact ⟨ret_i64 Hr.out.symm, rfl⟩
  · have Hr := Lib.hid (floor_of' hb h)
    go_enter Try.func137, Try.ntmps137
    go_wp2
    go_ret
    exact ⟨ret_i64 Hr.out.symm, rfl⟩

set_option maxHeartbeats 400000 in
theorem Floor_any (a b : Int) (ha : -9223372036854775807 ≤ a) (ha' : a ≤ 9223372036854775807) (hb : 1 ≤ b) (hb' : b ≤ 9223372036854775807) (w : World) :
    Calls Try.prog 114 #[.int .i64 a, .int .i64 b] w fun e w' => e = .returned (.int .i64 (a / b)) ∧ w = w' := by
  have hz : (b == 0) = false := by simp; omega
  have hq : (a.tdiv b).natAbs ≤ a.natAbs := Int.natAbs_tdiv_le_natAbs a b
  have hq1 : -9223372036854775807 ≤ a.tdiv b := by omega
  have hq2 : a.tdiv b ≤ 9223372036854775807 := by omega
  clear hq
  by_cases h : a.tmod b < 0
  · have Hr := Lib.hid (floor_of hb h)
    go_enter Try.func114, Try.ntmps114
    go_wp2
    go_ret
    exact ⟨ret_i64 Hr.out.symm, rfl⟩
  · have Hr := Lib.hid (floor_of' hb h)
    go_enter Try.func114, Try.ntmps114
    go_wp2
    go_ret
    exact ⟨ret_i64 Hr.out.symm, rfl⟩

end Go.Proofs.Ytmnlgeglmkdecaa
