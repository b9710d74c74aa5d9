
/-
  Along a run to a stop: plain facts.
-/
import Derived.Test.YtbicmbnhlnmdfaaBBeP
import Derived.Test.YtbicmbnhlnmdfaaBStd
namespace Go.Proofs.Ytbicmbnhlnmdfaa

theorem crv_lim {ps : List Bp} (hx : ∀ q ∈ ps, okP q = true) (d : Int) {stop i : Nat} (h : i ≤ stop) : crvV ps d stop i ≤ limV ps i := by
  have h1 := (limV_bound hx i).1
  rw [crvV_step ps d stop i h]
  split
  · omega
  · split <;> omega
theorem crv_loss {ps : List Bp} {d : Int} {stop i : Nat} (h : i ≤ stop) (hn : crvV ps d stop i ≠ -1) : crvV ps d stop i ≤ crvV ps d stop (i + 1) + lossV (gp ps i) d := by
  rw [crvV_step ps d stop i h] at hn ⊢
  split
  · rename_i h1; rw [if_pos h1] at hn; exact absurd rfl hn
  · rename_i h1
    rw [if_neg h1] at hn
    split
    · rename_i h2; rw [if_pos h2] at hn; exact absurd rfl hn
    · omega
theorem run_shift (ps : List Bp) (b : Bs) (stop p : Nat) (sq : Int) (i : Nat) : ∀ j, runV ps b stop (p + i) (runV ps b stop p sq i) j = runV ps b stop p sq (i + j)
  | 0 => rfl
  | j + 1 => by
    rw [runV, run_shift ps b stop p sq i j, show i + (j + 1) = (i + j) + 1 by omega, runV, Nat.add_assoc p i j]
theorem reach_on {ps : List Bp} {b : Bs} {stop p : Nat} {sq : Int} (h : runE ps b stop p sq = 0) {i : Nat} (hi : p + i ≤ stop) : runE ps b stop (p + i) (runV ps b stop p sq i) = 0 := by
  obtain ⟨h1, h2, h3⟩ := runE_zero h
  have h4 := crv_up h1 i (by omega)
  have h5 := run_le h2 i
  refine runE_ok (by omega) (fun k hk => ?_)
  rw [run_shift]
  exact h3 _ (by omega)
theorem run_drive {ps : List Bp} (hx : ∀ q ∈ ps, okP q = true) {b : Bs} (hb : OkS b) (stop p : Nat) (sq : Int) (i : Nat) : runV ps b stop p sq (i + 1) ≤ runV ps b stop p sq i + 2 * (b.drv - 10 * (gp ps (p + i)).grad) * (gp ps (p + i)).len := by
  have h1 := okP_iff.1 (gp_ok hx (p + i))
  have h2 := Int.mul_le_mul_of_nonneg_right (show -(2 * (b.drag + 10 * (gp ps (p + i)).grad)) ≤ 2 * (b.drv - 10 * (gp ps (p + i)).grad) by have := hb.d0; have := hb.v0; omega) (show 0 ≤ (gp ps (p + i)).len by omega)
  rw [Int.neg_mul] at h2
  rw [runV, lossV]
  omega
theorem run_brake {ps : List Bp} (hx : ∀ q ∈ ps, okP q = true) {b : Bs} (hb : OkS b) {stop p : Nat} {sq : Int} (h : runE ps b stop p sq = 0) {i : Nat} (hi : p + i + 1 ≤ stop) : runV ps b stop p sq i - 2 * (b.brk + 10 * (gp ps (p + i)).grad) * (gp ps (p + i)).len ≤ runV ps b stop p sq (i + 1) := by
  obtain ⟨h1, h2, h3⟩ := runE_zero h
  have h4 := crv_loss (by omega) (crv_up h1 i (by omega))
  have h5 := run_le h2 i
  have h6 := loss_mono (gp_ok hx (p + i)) hb.le
  rw [runV]
  unfold lossV at *
  omega
theorem run_last {ps : List Bp} (hx : ∀ q ∈ ps, okP q = true) {b : Bs} {stop p : Nat} {sq : Int} (hp : p ≤ stop) (h : runE ps b stop p sq = 0) : 0 ≤ runV ps b stop p sq (stop - p) ∧ runV ps b stop p sq (stop - p) ≤ lossV (gp ps stop) b.brk := by
  obtain ⟨h1, h2, h3⟩ := runE_zero h
  have h4 := crv_up h1 (stop - p) (by omega)
  have h5 := run_le h2 (stop - p)
  rw [show p + (stop - p) = stop by omega] at h4 h5
  have h6 := crv_loss (Nat.le_refl _) h4
  rw [crvV_top] at h6
  exact ⟨h3 _ (Nat.le_refl _), by omega⟩
theorem run_still {ps : List Bp} (hx : ∀ q ∈ ps, okP q = true) {b : Bs} {stop p : Nat} {sq : Int} (hp : p ≤ stop) (h : runE ps b stop p sq = 0) (hd : b.brk + 10 * (gp ps stop).grad ≤ 0) : runV ps b stop p sq (stop - p) = 0 := by
  have h1 := run_last hx hp h
  have h2 := okP_iff.1 (gp_ok hx stop)
  have h3 := Int.mul_le_mul_of_nonneg_right (show 2 * (b.brk + 10 * (gp ps stop).grad) ≤ 0 by omega) (show 0 ≤ (gp ps stop).len by omega)
  rw [Int.zero_mul] at h3
  unfold lossV at h1
  omega
/-- Where a train of square x stands on a piece of length l at a deceleration of d. -/
theorem stand_in {x d l : Int} (hd : 0 < d) (h0 : 0 ≤ x) (hl : x ≤ 2 * d * l) : 0 ≤ x.tdiv (2 * d) ∧ x.tdiv (2 * d) ≤ (x + 2 * d - 1).tdiv (2 * d) ∧ (x + 2 * d - 1).tdiv (2 * d) ≤ l := by
  rw [Int.tdiv_eq_ediv_of_nonneg h0, Int.tdiv_eq_ediv_of_nonneg (by omega)]
  refine ⟨Int.ediv_nonneg h0 (by omega), Int.ediv_le_ediv (by omega) (by omega), ?_⟩
  have : (x + 2 * d - 1) / (2 * d) < l + 1 := by
    apply Int.ediv_lt_of_lt_mul (by omega)
    rw [Int.add_mul, Int.mul_comm l]
    omega
  omega
theorem run_in {ps : List Bp} (hx : ∀ q ∈ ps, okP q = true) {b : Bs} {stop p : Nat} {sq : Int} (h : runE ps b stop p sq = 0) {i : Nat} (hi : p + i ≤ stop) : 0 ≤ runV ps b stop p sq i ∧ runV ps b stop p sq i ≤ limV ps (p + i) := by
  obtain ⟨h1, h2, h3⟩ := runE_zero h
  exact ⟨h3 i (by omega), Int.le_trans (run_le h2 i) (crv_lim hx _ hi)⟩
end Go.Proofs.Ytbicmbnhlnmdfaa
