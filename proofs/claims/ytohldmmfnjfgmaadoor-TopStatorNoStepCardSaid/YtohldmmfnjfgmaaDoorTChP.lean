
/-
  Quotients that are rounded, and the plain facts of a change in small steps.
-/
import Derived.Test.YtohldmmfnjfgmaaDoorTAwk
import Derived.Test.YtohldmmfnjfgmaaDoorTEven
namespace Go.Proofs.YtohldmmfnjfgmaaDoor
open Go.RowKit

theorem floor_of {a b : Int} (hb : 1 ≤ b) (h : a.tmod b < 0) : a / b = a.tdiv b - 1 := by
  have h1 := Int.emod_nonneg a (show b ≠ 0 by omega)
  rw [Int.tmod_eq_emod] at h
  rw [Int.tdiv_eq_ediv]
  split at h
  · omega
  · rename_i hh
    rw [if_neg hh, Int.sign_eq_one_of_pos (by omega)]; omega
theorem floor_of' {a b : Int} (hb : 1 ≤ b) (h : ¬ a.tmod b < 0) : a / b = a.tdiv b := by
  have h1 := Int.emod_lt_of_pos a (show 0 < b by omega)
  rw [Int.tmod_eq_emod] at h
  rw [Int.tdiv_eq_ediv]
  split at h
  · rename_i hh
    rw [if_pos hh]; omega
  · omega
set_option maxHeartbeats 400000 in
theorem floor_any (a b : Int) (ha : -9223372036854775807 ≤ a) (ha' : a ≤ 9223372036854775807) (hb : 1 ≤ b) (hb' : b ≤ 9223372036854775807) (w : World) :
    Calls Tryd.prog 78 #[.int .i64 a, .int .i64 b] w fun e w' => e = .returned (.int .i64 (a / b)) ∧ w = w' := by
  have hz : (b == 0) = false := by simp; omega
  have hq : (a.tdiv b).natAbs ≤ a.natAbs := Int.natAbs_tdiv_le_natAbs a b
  have hq1 : -9223372036854775807 ≤ a.tdiv b := by omega
  have hq2 : a.tdiv b ≤ 9223372036854775807 := by omega
  clear hq
  by_cases h : a.tmod b < 0
  · have Hr := Lib.hid (floor_of hb h)
    go_enter Tryd.func78, Tryd.ntmps78
    go_wp2
    go_ret
    exact ⟨ret_i64 Hr.out.symm, rfl⟩
  · have Hr := Lib.hid (floor_of' hb h)
    go_enter Tryd.func78, Tryd.ntmps78
    go_wp2
    go_ret
    exact ⟨ret_i64 Hr.out.symm, rfl⟩
theorem div_bd {a b M : Int} (hM : 0 ≤ M) (hb : 1 ≤ b) (h0 : -M ≤ a) (h1 : a ≤ M) : -M ≤ a / b ∧ a / b ≤ M := by
  have l1 : a / b ≤ M := by
    have : a / b ≤ M / b := Int.ediv_le_ediv (by omega) h1
    have h2 : M / b ≤ M := Int.ediv_le_self _ hM
    omega
  have l2 : -M ≤ a / b := by
    rw [Int.le_ediv_iff_mul_le (by omega)]
    have : M * 1 ≤ M * b := Int.mul_le_mul_of_nonneg_left hb hM
    rw [Int.neg_mul]
    omega
  exact ⟨l2, l1⟩
/-- A part of a change, behind so many of the steps. -/
def hdP (f t s : Int) (k : Nat) : Int := f + (k * (t - f)) / s
def hdV (f t : T3) (s : Int) (k : Nat) : T3 := ⟨hdP f.a t.a s k, hdP f.b t.b s k⟩
/-- The vectors of a change. -/
def hdL (f t : T3) (s : Int) (n : Nat) : List T3 := (List.range n).map fun k => hdV f t s (k + 1)
theorem hdL_len (f t : T3) (s : Int) (n : Nat) : (hdL f t s n).length = n := by simp [hdL]
theorem hdL_at (f t : T3) (s : Int) (n k : Nat) (h : k < n) : (hdL f t s n)[k]? = some (hdV f t s (k + 1)) := by simp [hdL, h]
theorem hdL_succ (f t : T3) (s : Int) (n : Nat) : hdL f t s (n + 1) = hdL f t s n ++ [hdV f t s (n + 1)] := by unfold hdL; rw [List.range_succ, List.map_append]; rfl
theorem hdP_zero (f t s : Int) : hdP f t s 0 = f := by unfold hdP; simp
theorem hdP_last (f t : Int) (n : Nat) (hn : n ≠ 0) : hdP f t (n : Int) n = t := by
  unfold hdP
  rw [Int.mul_comm, Int.mul_ediv_cancel _ (by omega)]
  omega
theorem hdP_step {f t s : Int} (hs : 1 ≤ s) (k : Nat) : hdP f t s (k + 1) - hdP f t s k ≤ -(-(max (t - f) (-(t - f))) / s) ∧ -(hdP f t s (k + 1) - hdP f t s k) ≤ -(-(max (t - f) (-(t - f))) / s) := by
  unfold hdP
  generalize t - f = v
  obtain ⟨c, hc⟩ : ∃ c, -(-(max v (-v)) / s) = c := ⟨_, rfl⟩
  have h1 : max v (-v) ≤ c * s := by
    have := Int.ediv_mul_le (-(max v (-v))) (show s ≠ 0 by omega)
    have e : -(max v (-v)) / s = -c := by omega
    rw [e, Int.neg_mul] at this
    omega
  rw [hc]
  have e2 : ((k + 1 : Nat) : Int) * v = k * v + v := by rw [show ((k + 1 : Nat) : Int) = k + 1 by omega, Int.add_mul, Int.one_mul]
  rw [e2]
  have u1 : (k * v + v) / s ≤ k * v / s + c := by
    have := Int.ediv_le_ediv (a := k * v + v) (b := k * v + c * s) (c := s) (by omega) (by omega)
    rwa [Int.add_mul_ediv_right _ _ (show s ≠ 0 by omega)] at this
  have u2 : k * v / s ≤ (k * v + v) / s + c := by
    have := Int.ediv_le_ediv (a := k * v) (b := (k * v + v) + c * s) (c := s) (by omega) (by omega)
    rwa [Int.add_mul_ediv_right _ _ (show s ≠ 0 by omega)] at this
  omega
theorem hdP_bd {f t s : Int} (hs : 1 ≤ s) (h0 : -100000 ≤ f ∧ f ≤ 100000) (h1 : -100000 ≤ t ∧ t ≤ 100000) (k : Nat) (hk : k ≤ 101) : (-20200000 ≤ k * (t - f) ∧ k * (t - f) ≤ 20200000) ∧ -20200000 ≤ (k * (t - f)) / s ∧ (k * (t - f)) / s ≤ 20200000 := by
  have := mulB (A := 101) (B := 200000) (x := (k : Int)) (y := t - f) (by omega) (by omega)
  exact ⟨by omega, div_bd (by omega) hs (by omega) (by omega)⟩
end Go.Proofs.YtohldmmfnjfgmaaDoor
