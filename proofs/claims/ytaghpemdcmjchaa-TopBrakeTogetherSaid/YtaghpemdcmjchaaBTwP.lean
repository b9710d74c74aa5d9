
/-
  A train reaches a stop just if its square lies between the least square and the curve: plain facts.
-/
import Derived.Test.YtaghpemdcmjchaaBRun
namespace Go.Proofs.Ytaghpemdcmjchaa

theorem runE_zero {ps : List Bp} {b : Bs} {stop p : Nat} {sq : Int} (h : runE ps b stop p sq = 0) : crvV ps b.brk stop p ≠ -1 ∧ sq ≤ crvV ps b.brk stop p ∧ ∀ k, k ≤ stop - p → 0 ≤ runV ps b stop p sq k := by
  unfold runE at h
  split at h
  · cases h
  · rename_i h1
    split at h
    · cases h
    · rename_i h2
      refine ⟨fun e => h1 (Or.inl e), by omega, fun k hk => ?_⟩
      rcases Int.lt_or_le (runV ps b stop p sq k) 0 with hn | hn
      · exfalso
        apply h2
        exact List.any_eq_true.2 ⟨k, List.mem_range.2 (by omega), by simpa using hn⟩
      · exact hn
theorem runE_three (ps : List Bp) (b : Bs) (stop p : Nat) (sq : Int) : runE ps b stop p sq = 0 ∨ runE ps b stop p sq = 24 ∨ runE ps b stop p sq = 12 := by
  unfold runE
  split
  · right; left; rfl
  · split
    · right; right; rfl
    · left; rfl
theorem crv_up {ps : List Bp} {d : Int} {stop p : Nat} (h : crvV ps d stop p ≠ -1) : ∀ k, p + k ≤ stop + 1 → crvV ps d stop (p + k) ≠ -1
  | 0, _ => h
  | k + 1, hk => by
    have ih := crv_up h k (by omega)
    intro e
    apply ih
    rw [crvV_step ps d stop (p + k) (by omega), if_pos (by rw [show p + k + 1 = p + (k + 1) by omega]; exact e)]
theorem run_le {ps : List Bp} {b : Bs} {stop p : Nat} {sq : Int} (h : sq ≤ crvV ps b.brk stop p) : ∀ k, runV ps b stop p sq k ≤ crvV ps b.brk stop (p + k)
  | 0 => h
  | k + 1 => by rw [runV, show p + (k + 1) = p + k + 1 by omega]; omega
theorem lst_le {ps : List Bp} {b : Bs} {stop p : Nat} {sq : Int} (hpos : ∀ k, k ≤ stop - p → 0 ≤ runV ps b stop p sq k) (hp : p ≤ stop) : ∀ m, m ≤ stop - p → lstV ps b.drag stop (stop - m) ≤ runV ps b stop p sq (stop - p - m)
  | 0, _ => by rw [Nat.sub_zero, lstV_top, Nat.sub_zero]; exact hpos _ (Nat.le_refl _)
  | m + 1, hm => by
    have ih := lst_le hpos hp m (by omega)
    have e1 : stop - (m + 1) + 1 = stop - m := by omega
    have e2 : stop - p - m = (stop - p - (m + 1)) + 1 := by omega
    have e3 : p + (stop - p - (m + 1)) = stop - (m + 1) := by omega
    rw [lstV_step ps b.drag stop (stop - (m + 1)) (by omega), e1]
    rw [e2, runV, e3] at ih
    have h0 := hpos (stop - p - (m + 1)) (by omega)
    omega
theorem run_ge {ps : List Bp} {b : Bs} {stop p : Nat} {sq : Int} (h0 : lstV ps b.drag stop p ≤ sq) (hc : ∀ i, p ≤ i → i ≤ stop → lstV ps b.drag stop i ≤ crvV ps b.brk stop i) : ∀ k, p + k ≤ stop → lstV ps b.drag stop (p + k) ≤ runV ps b stop p sq k
  | 0, _ => h0
  | k + 1, hk => by
    have ih := run_ge h0 hc k (by omega)
    have h1 := hc (p + k + 1) (by omega) (by omega)
    rw [lstV_step ps b.drag stop (p + k) (by omega)] at ih
    rw [runV, show p + (k + 1) = p + k + 1 by omega]
    omega
/-- Is the square between, and the least squares so far below the curve? -/
def btwF (ps : List Bp) (b : Bs) (stop p : Nat) (sq : Int) : Nat → Bool
  | 0 => decide (lstV ps b.drag stop p ≤ sq) && decide (sq ≤ crvV ps b.brk stop p)
  | k + 1 => btwF ps b stop p sq k && (!decide (crvV ps b.brk stop (p + k) = -1) && decide (lstV ps b.drag stop (p + k) ≤ crvV ps b.brk stop (p + k)))
theorem btwF_iff (ps : List Bp) (b : Bs) (stop p : Nat) (sq : Int) : ∀ n, btwF ps b stop p sq n = true ↔ (lstV ps b.drag stop p ≤ sq ∧ sq ≤ crvV ps b.brk stop p) ∧ ∀ k, k < n → crvV ps b.brk stop (p + k) ≠ -1 ∧ lstV ps b.drag stop (p + k) ≤ crvV ps b.brk stop (p + k)
  | 0 => by simp [btwF]
  | n + 1 => by
    rw [btwF, Bool.and_eq_true, btwF_iff ps b stop p sq n]
    simp only [Bool.and_eq_true, Bool.not_eq_true', decide_eq_false_iff_not, decide_eq_true_eq]
    constructor
    · rintro ⟨⟨h1, h2⟩, h3, h4⟩
      refine ⟨h1, fun k hk => ?_⟩
      by_cases e : k = n
      · subst e; exact ⟨h3, h4⟩
      · exact h2 k (by omega)
    · rintro ⟨h1, h2⟩
      exact ⟨⟨h1, fun k hk => h2 k (by omega)⟩, h2 n (by omega)⟩
theorem btwF_end {ps : List Bp} {b : Bs} {stop p : Nat} {sq : Int} (hp : p ≤ stop) (hx : ∀ q ∈ ps, okP q = true) (hb : OkS b) (hs : stop ≤ 12) : btwF ps b stop p sq (stop - p + 1) = decide (runE ps b stop p sq = 0) := by
  have hL : ∀ i, 0 ≤ lstV ps b.drag stop i := fun i => (lstV_bound hx (by have := hb.d0; have := hb.d1; omega) stop i hs).1
  rw [Bool.eq_iff_iff, btwF_iff, decide_eq_true_eq]
  constructor
  · rintro ⟨⟨h1, h2⟩, h3⟩
    have hc : ∀ i, p ≤ i → i ≤ stop → lstV ps b.drag stop i ≤ crvV ps b.brk stop i := fun i hi hi2 => by
      have := (h3 (i - p) (by omega)).2
      rwa [show p + (i - p) = i by omega] at this
    exact runE_ok (by rintro (e | e); exact (h3 0 (by omega)).1 e; omega) (fun k hk => by
      have h5 := run_ge h1 hc k (by omega)
      have := hL (p + k)
      omega)
  · intro h
    obtain ⟨h1, h2, h3⟩ := runE_zero h
    have hl : ∀ k, k ≤ stop - p → lstV ps b.drag stop (p + k) ≤ runV ps b stop p sq k := fun k hk => by
      have := lst_le h3 hp (stop - p - k) (by omega)
      rwa [show stop - (stop - p - k) = p + k by omega, show stop - p - (stop - p - k) = k by omega] at this
    refine ⟨⟨hl 0 (by omega), h2⟩, fun k hk => ⟨crv_up h1 k (by omega), ?_⟩⟩
    have h4 := hl k (by omega)
    have h5 := run_le h2 k
    omega
end Go.Proofs.Ytaghpemdcmjchaa
