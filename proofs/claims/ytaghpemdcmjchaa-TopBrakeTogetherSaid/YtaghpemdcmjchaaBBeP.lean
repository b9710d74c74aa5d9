
/-
  Better brakes: plain facts.
-/
import Derived.Test.YtaghpemdcmjchaaBTwP
namespace Go.Proofs.Ytaghpemdcmjchaa

theorem crv_ge {ps : List Bp} (hx : ∀ q ∈ ps, okP q = true) (d : Int) (stop : Nat) : ∀ m, m ≤ stop + 1 → crvV ps d stop (stop + 1 - m) = -1 ∨ 0 ≤ crvV ps d stop (stop + 1 - m)
  | 0, _ => by right; rw [Nat.sub_zero, crvV_top]; omega
  | m + 1, hm => by
    rw [crvV_step ps d stop (stop + 1 - (m + 1)) (by omega)]
    split
    · left; rfl
    · split
      · left; rfl
      · right; omega
theorem loss_mono {p : Bp} (h : okP p = true) {d d' : Int} (hd : d ≤ d') : lossV p d ≤ lossV p d' := by
  have h1 := okP_iff.1 h
  unfold lossV
  exact Int.mul_le_mul_of_nonneg_right (by omega) (by omega)
theorem crv_mono {ps : List Bp} (hx : ∀ q ∈ ps, okP q = true) {d d' : Int} (hd : d ≤ d') (stop : Nat) : ∀ m, m ≤ stop + 1 → crvV ps d stop (stop + 1 - m) ≤ crvV ps d' stop (stop + 1 - m)
  | 0, _ => by rw [Nat.sub_zero, crvV_top, crvV_top]; omega
  | m + 1, hm => by
    have ih := crv_mono hx hd stop m (by omega)
    have e1 : stop + 1 - (m + 1) + 1 = stop + 1 - m := by omega
    have hb := (crvV_bound hx d' stop (stop + 1 - (m + 1))).1
    have hz := crv_ge hx d stop m (by omega)
    have hl := loss_mono (gp_ok hx (stop + 1 - (m + 1))) hd
    rw [crvV_step ps d stop (stop + 1 - (m + 1)) (by omega), e1]
    split
    · exact hb
    · rename_i h1
      split
      · exact hb
      · rename_i h2
        rw [crvV_step ps d' stop (stop + 1 - (m + 1)) (by omega), e1]
        rw [if_neg (by omega), if_neg (by omega)]
        omega
theorem crv_mono' {ps : List Bp} (hx : ∀ q ∈ ps, okP q = true) {d d' : Int} (hd : d ≤ d') (stop i : Nat) (hi : i ≤ stop + 1) : crvV ps d stop i ≤ crvV ps d' stop i := by
  have := crv_mono hx hd stop (stop + 1 - i) (by omega)
  rwa [show stop + 1 - (stop + 1 - i) = i by omega] at this
theorem lst_mono {ps : List Bp} (hx : ∀ q ∈ ps, okP q = true) {d d' : Int} (hd : d ≤ d') (stop : Nat) : ∀ m, m ≤ stop → lstV ps d stop (stop - m) ≤ lstV ps d' stop (stop - m)
  | 0, _ => by rw [Nat.sub_zero, lstV_top, lstV_top]; omega
  | m + 1, hm => by
    have ih := lst_mono hx hd stop m (by omega)
    have e1 : stop - (m + 1) + 1 = stop - m := by omega
    have hl := loss_mono (gp_ok hx (stop - (m + 1))) hd
    rw [lstV_step ps d stop (stop - (m + 1)) (by omega), lstV_step ps d' stop (stop - (m + 1)) (by omega), e1]
    omega
theorem lst_mono' {ps : List Bp} (hx : ∀ q ∈ ps, okP q = true) {d d' : Int} (hd : d ≤ d') (stop i : Nat) (hi : i ≤ stop) : lstV ps d stop i ≤ lstV ps d' stop i := by
  have := lst_mono hx hd stop (stop - i) (by omega)
  rwa [show stop - (stop - i) = i by omega] at this
theorem run_mono {ps : List Bp} (hx : ∀ q ∈ ps, okP q = true) {b b' : Bs} (hd : b.brk ≤ b'.brk) (hg : b'.drag = b.drag) (stop p : Nat) (sq : Int) : ∀ k, p + k ≤ stop + 1 → runV ps b stop p sq k ≤ runV ps b' stop p sq k
  | 0, _ => Int.le_refl _
  | k + 1, hk => by
    have ih := run_mono hx hd hg stop p sq k (by omega)
    have h1 := crv_mono' hx hd stop (p + k + 1) (by omega)
    rw [runV, runV, hg]
    omega
/-- A stop that was reached is reached with a better brake. -/
theorem reach_mono {ps : List Bp} (hx : ∀ q ∈ ps, okP q = true) {b b' : Bs} (hd : b.brk ≤ b'.brk) (hg : b'.drag = b.drag) {stop p : Nat} {sq : Int} (hp : p ≤ stop) (h : runE ps b stop p sq = 0) : runE ps b' stop p sq = 0 := by
  obtain ⟨h1, h2, h3⟩ := runE_zero h
  have h4 := crv_mono' hx hd stop p (by omega)
  have h5 := crv_ge hx b.brk stop (stop + 1 - p) (by omega)
  rw [show stop + 1 - (stop + 1 - p) = p by omega] at h5
  refine runE_ok (by omega) (fun k hk => ?_)
  have := run_mono hx hd hg stop p sq k (by omega)
  have := h3 k hk
  omega
theorem sE_of {b : Bs} (h : OkS b) : sE b = 0 := by
  obtain ⟨b0, b1, d0, d1, v0, v1, le⟩ := h
  have h1 : okS b = true := by
    unfold okS
    rw [inB_iff.2 ⟨b0, b1⟩, inB_iff.2 ⟨d0, d1⟩, inB_iff.2 ⟨v0, v1⟩]
    rfl
  unfold sE
  rw [h1, if_neg (by simp), if_neg (by omega)]
def betB (b : Bs) : Bs := ⟨min 3000 (b.brk + 100), b.drag, b.drv⟩
def sloB (b : Bs) : Bs := ⟨b.brk, min 500 (min b.brk (b.drag + 10)), b.drv⟩
theorem bet_ok {b : Bs} (h : OkS b) : OkS (betB b) := by
  obtain ⟨b0, b1, d0, d1, v0, v1, le⟩ := h
  exact ⟨by simp only [betB]; omega, by simp only [betB]; omega, d0, d1, v0, v1, by simp only [betB]; omega⟩
theorem slo_ok {b : Bs} (h : OkS b) : OkS (sloB b) := by
  obtain ⟨b0, b1, d0, d1, v0, v1, le⟩ := h
  exact ⟨b0, b1, by simp only [sloB]; omega, by simp only [sloB]; omega, v0, v1, by simp only [sloB]; omega⟩
theorem bet_le {b : Bs} (h : OkS b) : b.brk ≤ (betB b).brk := by have := h.b1; simp only [betB]; omega
theorem slo_le {b : Bs} (h : OkS b) : b.drag ≤ (sloB b).drag := by have := h.d1; have := h.le; simp only [sloB]; omega
end Go.Proofs.Ytaghpemdcmjchaa
