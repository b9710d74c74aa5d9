
/-
  Nothing is faster than the fastest squares: plain facts.
-/
import Derived.Test.YtaghpemdcmjchaaBTm
import Derived.Test.YtaghpemdcmjchaaBBeP
namespace Go.Proofs.Ytaghpemdcmjchaa

/-- No square of these is wrong: they can be run. -/
def runS (ps : List Bp) (b : Bs) (l : List Int) : Prop := ∀ k, k ≤ ps.length → badS ps b l k = false
theorem badS_no {ps : List Bp} {b : Bs} {l : List Int} {k : Nat} : badS ps b l k = false ↔ sqAt l k ≤ limV ps k ∧ (0 < k → sqAt l (k - 1) - lossV (gp ps (k - 1)) b.brk ≤ sqAt l k ∧ sqAt l k ≤ sqAt l (k - 1) + drvG (gp ps (k - 1)) b.drv) := by
  unfold badS
  rw [Bool.or_eq_false_iff, Bool.and_eq_false_iff, decide_eq_false_iff_not, decide_eq_false_iff_not]
  constructor
  · rintro ⟨h1, h2⟩
    refine ⟨by omega, fun hk => ?_⟩
    rcases h2 with h2 | h2
    · exact absurd hk h2
    · have h3 : inB (sqAt l k) (sqAt l (k - 1) - lossV (gp ps (k - 1)) b.brk) (sqAt l (k - 1) + drvG (gp ps (k - 1)) b.drv) = true := by simpa using h2
      exact inB_iff.1 h3
  · rintro ⟨h1, h2⟩
    refine ⟨by omega, ?_⟩
    by_cases hk : 0 < k
    · right; rw [inB_iff.2 (h2 hk)]; rfl
    · left; exact hk
theorem runS_step {ps : List Bp} {b : Bs} {l : List Int} (h : runS ps b l) {k : Nat} (hk : k < ps.length) : sqAt l k - lossV (gp ps k) b.brk ≤ sqAt l (k + 1) ∧ sqAt l (k + 1) ≤ sqAt l k + drvG (gp ps k) b.drv := by
  have := (badS_no.1 (h (k + 1) (by omega))).2 (by omega)
  exact this
/-- What can be run, and ends well, is below what the brake permits. -/
theorem le_bw {ps : List Bp} {b : Bs} {l : List Int} {e1 : Int} (h : runS ps b l) (he : sqAt l ps.length ≤ e1) : ∀ j, j ≤ ps.length → sqAt l (ps.length - j) ≤ bwV ps b.brk e1 (ps.length - j)
  | 0, _ => by
    have := (badS_no.1 (h ps.length (Nat.le_refl _))).1
    rw [Nat.sub_zero, bwV_top]
    omega
  | j + 1, hj => by
    have ih := le_bw h he j (by omega)
    obtain ⟨k, hk⟩ : ∃ k, k = ps.length - (j + 1) := ⟨_, rfl⟩
    rw [show ps.length - j = k + 1 by omega] at ih
    rw [← hk]
    have h1 := (badS_no.1 (h k (by omega))).1
    have h2 := (runS_step h (k := k) (by omega)).1
    rw [bwV_step ps b.brk e1 k (by omega)]
    omega
theorem le_bw' {ps : List Bp} {b : Bs} {l : List Int} {e1 : Int} (h : runS ps b l) (he : sqAt l ps.length ≤ e1) (k : Nat) (hk : k ≤ ps.length) : sqAt l k ≤ bwV ps b.brk e1 k := by
  have := le_bw h he (ps.length - k) (by omega)
  rwa [show ps.length - (ps.length - k) = k by omega] at this
/-- Nothing that can be run, with the same beginning and no greater end, is greater anywhere. -/
theorem le_fw {ps : List Bp} {b : Bs} {l : List Int} {e0 e1 : Int} (h : runS ps b l) (h0 : sqAt l 0 = e0) (he : sqAt l ps.length ≤ e1) : ∀ k, k ≤ ps.length → sqAt l k ≤ fwV ps b e0 e1 k
  | 0, _ => by rw [fwV]; omega
  | k + 1, hk => by
    have ih := le_fw h h0 he k (by omega)
    have h1 := le_bw' h he (k + 1) hk
    have h2 := (runS_step h (k := k) (by omega)).2
    rw [fwV]
    omega
theorem rival_fas {ps : List Bp} {b : Bs} {l : List Int} {e0 e1 : Int} (h : runS ps b l) (h0 : sqAt l 0 = e0) (he : sqAt l ps.length ≤ e1) (hp : ∀ k, k ≤ ps.length → 0 ≤ sqAt l k) : fasB ps b e0 e1 = true :=
  fasB_iff.2 ⟨by have := le_bw' h he 0 (Nat.zero_le _); omega, fun i hi => by have h1 := hp i hi; have h2 := le_fw h h0 he i hi; omega⟩
theorem sqAt_listF {n k : Nat} {f : Nat → Int} (h : k < n) : sqAt (listF n f) k = f k := by
  have := listF_at (n := n) (f := f) (k := k) h
  unfold sqAt
  rw [List.getD_eq_getElem?_getD, this]; rfl
theorem bw_lim (ps : List Bp) (d e1 : Int) (k : Nat) (hk : k ≤ ps.length) : bwV ps d e1 k ≤ limV ps k := by
  by_cases h : k = ps.length
  · subst h; rw [bwV_top]; omega
  · rw [bwV_step ps d e1 k (by omega)]; omega
theorem fw_bw {ps : List Bp} {b : Bs} {e0 e1 : Int} (h : fasB ps b e0 e1 = true) (k : Nat) : fwV ps b e0 e1 k ≤ bwV ps b.brk e1 k := by
  cases k with
  | zero => have := (fasB_iff.1 h).1; rw [fwV]; exact this
  | succ k => exact fw_le_bw ps b e0 e1 k
/-- The fastest squares can be run. -/
theorem fast_runs {ps : List Bp} (hx : ∀ p ∈ ps, okP p = true) {b : Bs} (hb : OkS b) {e0 e1 : Int} (h : fasB ps b e0 e1 = true) : runS ps b (listF (ps.length + 1) (fwV ps b e0 e1)) := fun k hk => by
  refine badS_no.2 ⟨?_, fun h0 => ?_⟩
  · rw [sqAt_listF (by omega)]
    have h1 := fw_bw h k
    have h2 := bw_lim ps b.brk e1 k hk
    omega
  · rw [sqAt_listF (by omega), sqAt_listF (by omega)]
    obtain ⟨j, rfl⟩ : ∃ j, k = j + 1 := ⟨k - 1, by omega⟩
    rw [show j + 1 - 1 = j by omega]
    have h1 := fw_bw h j
    have h2 := bwV_step ps b.brk e1 j (by omega)
    have h3 := okP_iff.1 (gp_ok hx j)
    have h4 : 0 ≤ drvG (gp ps j) b.drv + lossV (gp ps j) b.brk := by
      unfold drvG lossV
      rw [← Int.add_mul]
      exact Int.mul_nonneg (by have := hb.v0; have := hb.b0; omega) (by omega)
    rw [fwV]
    omega
theorem fast_err {ps : List Bp} {b : Bs} {e0 e1 : Int} (hx : ∀ p ∈ ps, okP p = true) (he0 : 0 ≤ e0 ∧ e0 ≤ 20000000000) (h : fasB ps b e0 e1 = true) : sqsE ps (listF (ps.length + 1) (fwV ps b e0 e1)) = 0 := by
  unfold sqsE
  rw [if_neg (by rw [listF_len]; simp)]
  refine sqE_yes fun x hxm => ?_
  obtain ⟨k, hk, rfl⟩ := List.mem_map.1 hxm
  have hk2 : k ≤ ps.length := by have := List.mem_range.1 hk; omega
  have h1 := (fasB_iff.1 h).2 k hk2
  have h2 := fw_bw h k
  have h3 := bw_lim ps b.brk e1 k hk2
  have h4 := (limV_bound hx k).2
  exact inB_iff.2 ⟨h1, by omega⟩
theorem fast_end {ps : List Bp} {b : Bs} {e0 e1 : Int} (h : fasB ps b e0 e1 = true) : fwV ps b e0 e1 ps.length ≤ e1 := by
  have h1 := fw_bw h ps.length
  rw [bwV_top] at h1
  omega
/-- With a greater end nothing is less. -/
theorem bw_mono {ps : List Bp} {d e1 e2 : Int} (h : e1 ≤ e2) : ∀ j, bwS ps d e1 j ≤ bwS ps d e2 j
  | 0 => by simp only [bwS]; omega
  | j + 1 => by have := bw_mono (ps := ps) (d := d) h j; simp only [bwS]; omega
theorem fw_mono {ps : List Bp} {b : Bs} {e0 e1 e2 : Int} (h : e1 ≤ e2) : ∀ k, fwV ps b e0 e1 k ≤ fwV ps b e0 e2 k
  | 0 => by simp only [fwV]; omega
  | k + 1 => by
    have h1 := fw_mono (ps := ps) (b := b) (e0 := e0) h k
    have h2 := bw_mono (ps := ps) (d := b.brk) h (ps.length - (k + 1))
    rw [fwV, fwV]
    unfold bwV
    omega
theorem fas_mono {ps : List Bp} {b : Bs} {e0 e1 e2 : Int} (h : e1 ≤ e2) (hf : fasB ps b e0 e1 = true) : fasB ps b e0 e2 = true := by
  obtain ⟨g1, g2⟩ := fasB_iff.1 hf
  refine fasB_iff.2 ⟨?_, fun i hi => ?_⟩
  · have := bw_mono (ps := ps) (d := b.brk) h (ps.length - 0)
    unfold bwV at g1 ⊢
    omega
  · have h1 := g2 i hi
    have h2 := fw_mono (ps := ps) (b := b) (e0 := e0) h i
    omega
/-- A greater divisor, a lesser quotient. -/
theorem tdiv_anti {a b c : Int} (ha : 0 ≤ a) (hb : 1 ≤ b) (h : b ≤ c) : a.tdiv c ≤ a.tdiv b := by
  rw [Int.tdiv_eq_ediv_of_nonneg ha, Int.tdiv_eq_ediv_of_nonneg ha]
  have h1 := Int.ediv_nonneg ha (show 0 ≤ c by omega)
  rw [Int.le_ediv_iff_mul_le (by omega)]
  have h2 := Int.ediv_mul_le a (show c ≠ 0 by omega)
  have h3 := Int.mul_le_mul_of_nonneg_left h h1
  omega
theorem ceil_anti {a b c : Int} (ha : 0 ≤ a) (hb : 1 ≤ b) (h : b ≤ c) : (a + c - 1).tdiv c ≤ (a + b - 1).tdiv b := by
  rw [Int.tdiv_eq_ediv_of_nonneg (by omega), Int.tdiv_eq_ediv_of_nonneg (by omega)]
  obtain ⟨q, hq⟩ : ∃ q, (a + b - 1) / b = q := ⟨_, rfl⟩
  have h0 : 0 ≤ q := by rw [← hq]; exact Int.ediv_nonneg (by omega) (by omega)
  have h1 := Int.lt_ediv_add_one_mul_self (a + b - 1) (show 0 < b by omega)
  rw [hq, Int.add_mul, Int.one_mul] at h1
  have h2 : q * b ≤ q * c := Int.mul_le_mul_of_nonneg_left h h0
  rw [hq]
  have : (a + c - 1) / c < q + 1 := by
    apply Int.ediv_lt_of_lt_mul (by omega)
    rw [Int.add_mul, Int.one_mul]
    omega
  omega
/-- Greater squares take no more time. -/
theorem time_mono {ps : List Bp} (hx : ∀ p ∈ ps, okP p = true) {l m : List Int} (hl : ∀ k, 0 ≤ sqAt l k ∧ sqAt l k ≤ 20000000000) (hm : ∀ k, 0 ≤ sqAt m k ∧ sqAt m k ≤ 20000000000) (h : ∀ k, k ≤ ps.length → sqAt l k ≤ sqAt m k) : ∀ n, n ≤ ps.length → (∀ j, j < n → zeroS l j = false) → (∀ j, j < n → zeroS m j = false) ∧ tloV ps m n ≤ tloV ps l n ∧ thiV ps m n ≤ thiV ps l n
  | 0, _, _ => ⟨fun j hj => by omega, Int.le_refl _, Int.le_refl _⟩
  | n + 1, hn, hz => by
    obtain ⟨i1, i2, i3⟩ := time_mono hx hl hm h n (by omega) (fun j hj => hz j (by omega))
    have z1 := hz n (by omega)
    have z2 : zeroS m n = false := by
      cases e : zeroS m n with
      | false => rfl
      | true =>
        have h1 := zero_iff.1 e
        have h2 := h n (by omega)
        have h3 := h (n + 1) hn
        have h4 := hl n
        have h5 := hl (n + 1)
        have := zero_iff.2 (show sqAt l n = 0 ∧ sqAt l (n + 1) = 0 from ⟨by omega, by omega⟩)
        rw [z1] at this
        cases this
    have s1 := tim_step hx hl z1
    have s2 := tim_step hx hm z2
    have r1 := rt_mono (h n (by omega)) (hl n).1
    have r2 := rt_mono (h (n + 1) hn) (hl (n + 1)).1
    have hp := okP_iff.1 (gp_ok hx n)
    have d1 := tdiv_anti (a := 2000 * (gp ps n).len) (b := (rtU (sqAt l n) : Int) + rtU (sqAt l (n + 1))) (c := (rtU (sqAt m n) : Int) + rtU (sqAt m (n + 1))) (by omega) s1.1.1 (by omega)
    have d2 := ceil_anti (a := 2000 * (gp ps n).len) (b := rtL (sqAt l n) + rtL (sqAt l (n + 1))) (c := rtL (sqAt m n) + rtL (sqAt m (n + 1))) (by omega) s1.2.1 (by omega)
    refine ⟨fun j hj => ?_, ?_, ?_⟩
    · by_cases e : j = n
      · subst e; exact z2
      · exact i1 j (by omega)
    · rw [tloV, tloV]; omega
    · rw [thiV, thiV]; omega
end Go.Proofs.Ytaghpemdcmjchaa
