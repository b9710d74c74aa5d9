
/-
  The walk of StandsAt of the program, where the train stands at a piece.
-/
import Derived.Test.YtaghpemdcmjchaaBRun
namespace Go.Proofs.Ytaghpemdcmjchaa
open Go.RowKit

/-- The square behind k pieces, braked. -/
def sqS (ps : List Bp) (d : Int) (p : Nat) (sq : Int) : Nat → Int
  | 0 => sq
  | k + 1 => sqS ps d p sq k - lossV (gp ps (p + k)) d
theorem sqS_bound {ps : List Bp} (h : ∀ p ∈ ps, okP p = true) {d : Int} (hd : -3000 ≤ d ∧ d ≤ 3000) (p : Nat) {sq : Int} (hq : 0 ≤ sq ∧ sq ≤ 20000000000) : ∀ k : Nat, -((k : Int) * 80000000000) ≤ sqS ps d p sq k ∧ sqS ps d p sq k ≤ 20000000000 + (k : Int) * 80000000000
  | 0 => by simp only [sqS]; omega
  | k + 1 => by
    have h1 := sqS_bound h hd p hq k
    have h2 := lossV_bound (gp_ok h (p + k)) hd
    have e : ((k + 1 : Nat) : Int) * 80000000000 = (k : Int) * 80000000000 + 80000000000 := by push_cast; omega
    rw [sqS, e]
    omega
set_option maxHeartbeats 400000 in
theorem floor_any (a b : Int) (ha : 0 ≤ a) (ha' : a ≤ 2000000000000) (hb : 1 ≤ b) (hb' : b ≤ 100000) (w : World) :
    Calls Try.prog 30 #[.int .i64 a, .int .i64 b] w fun e w' => e = .returned (.int .i64 (a.tdiv b)) ∧ w = w' := by
  have hz : (b == 0) = false := by simp; omega
  have hq : (a.tdiv b).natAbs ≤ a.natAbs := Int.natAbs_tdiv_le_natAbs a b
  have hq1 : -9223372036854775807 ≤ a.tdiv b := by omega
  have hq2 : a.tdiv b ≤ 9223372036854775807 := by omega
  clear hq
  go_enter Try.func30, Try.ntmps30
  go_wp2
  go_ret
  exact ⟨rfl, rfl⟩
set_option maxHeartbeats 400000 in
theorem ceiling_any (a b : Int) (ha : 0 ≤ a) (ha' : a ≤ 2000000000000) (hb : 1 ≤ b) (hb' : b ≤ 100000) (w : World) :
    Calls Try.prog 31 #[.int .i64 a, .int .i64 b] w fun e w' => e = .returned (.int .i64 ((a + b - 1).tdiv b)) ∧ w = w' := by
  have hz : (b == 0) = false := by simp; omega
  have hw1 := IntWalk.i64_in (a + b) (by omega)
  have hw2 := IntWalk.i64_in (a + b - 1) (by omega)
  have hq : ((a + b - 1).tdiv b).natAbs ≤ (a + b - 1).natAbs := Int.natAbs_tdiv_le_natAbs (a + b - 1) b
  have hq1 : -9223372036854775807 ≤ (a + b - 1).tdiv b := by omega
  have hq2 : (a + b - 1).tdiv b ≤ 9223372036854775807 := by omega
  clear hq
  go_enter Try.func31, Try.ntmps31
  go_wp2
  go_ret
  exact ⟨rfl, rfl⟩

end Go.Proofs.Ytaghpemdcmjchaa
