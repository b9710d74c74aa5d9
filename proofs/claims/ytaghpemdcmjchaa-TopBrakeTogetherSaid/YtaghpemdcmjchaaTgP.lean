
/-
  Tracks one behind the other: plain facts.
-/
import Derived.Test.YtaghpemdcmjchaaBSp
import Derived.Test.YtaghpemdcmjchaaBNoK
namespace Go.Proofs.Ytaghpemdcmjchaa
open Go.RowKit
theorem gp_app2 (ps ps2 : List Bp) (i : Nat) : gp (ps ++ ps2) (ps.length + i) = gp ps2 i := by
  unfold gp
  rw [List.getD_eq_getElem?_getD, List.getD_eq_getElem?_getD, List.getElem?_append_right (by omega), Nat.add_sub_cancel_left]
theorem lim_app2 (ps ps2 : List Bp) (i : Nat) (h : 1 ≤ i) : limV (ps ++ ps2) (ps.length + i) = limV ps2 i := by
  unfold limV
  rw [gp_app2, show ps.length + i - 1 = ps.length + (i - 1) by omega, gp_app2, List.length_append]
  have e1 : (ps.length + i < ps.length + ps2.length) = (i < ps2.length) := propext ⟨fun h => by omega, fun h => by omega⟩
  have e2 : (0 < ps.length + i) = (0 < i) := propext ⟨fun _ => by omega, fun _ => by omega⟩
  simp only [e1, e2]
theorem crv_app2 (ps ps2 : List Bp) (d : Int) (stop : Nat) : ∀ m, m ≤ stop → crvV (ps ++ ps2) d (ps.length + stop) (ps.length + (stop + 1 - m)) = crvV ps2 d stop (stop + 1 - m)
  | 0, _ => by rw [Nat.sub_zero, show ps.length + (stop + 1) = ps.length + stop + 1 by omega, crvV_top, crvV_top]
  | m + 1, h => by
    have ih := crv_app2 ps ps2 d stop m (by omega)
    rw [crvV_step (ps ++ ps2) d _ _ (by omega), crvV_step ps2 d stop (stop + 1 - (m + 1)) (by omega), show ps.length + (stop + 1 - (m + 1)) + 1 = ps.length + (stop + 1 - m) by omega, show stop + 1 - (m + 1) + 1 = stop + 1 - m by omega, ih, lim_app2 ps ps2 _ (by omega), gp_app2]
theorem crv_app2' (ps ps2 : List Bp) (d : Int) (stop i : Nat) (h : 1 ≤ i) (h2 : i ≤ stop + 1) : crvV (ps ++ ps2) d (ps.length + stop) (ps.length + i) = crvV ps2 d stop i := by
  have := crv_app2 ps ps2 d stop (stop + 1 - i) (by omega)
  rw [show stop + 1 - (stop + 1 - i) = i by omega] at this
  exact this
theorem run_app2 (ps ps2 : List Bp) (b : Bs) (stop p : Nat) (sq : Int) (hp : 1 ≤ p) : ∀ k, p + k ≤ stop + 1 → runV (ps ++ ps2) b (ps.length + stop) (ps.length + p) sq k = runV ps2 b stop p sq k
  | 0, _ => rfl
  | k + 1, h => by
    have ih := run_app2 ps ps2 b stop p sq hp k (by omega)
    rw [runV, runV, ih, show ps.length + p + k + 1 = ps.length + (p + k + 1) by omega, crv_app2' ps ps2 _ _ _ (by omega) (by omega), show ps.length + p + k = ps.length + (p + k) by omega, gp_app2]
theorem runE_app2 (ps ps2 : List Bp) (b : Bs) (stop p : Nat) (sq : Int) (hp : 1 ≤ p) (hs : p ≤ stop) : runE (ps ++ ps2) b (ps.length + stop) (ps.length + p) sq = runE ps2 b stop p sq := by
  unfold runE
  rw [crv_app2' ps ps2 _ _ _ hp (by omega), show ps.length + stop - (ps.length + p) = stop - p by omega]
  have e : runNeg (ps ++ ps2) b (ps.length + stop) (ps.length + p) sq (stop - p) = runNeg ps2 b stop p sq (stop - p) := by
    unfold runNeg
    rw [Bool.eq_iff_iff, List.any_eq_true, List.any_eq_true]
    constructor
    · rintro ⟨k, hk, h⟩
      exact ⟨k, hk, by rw [run_app2 ps ps2 b stop p sq hp k (by have := List.mem_range.1 hk; omega)] at h; exact h⟩
    · rintro ⟨k, hk, h⟩
      exact ⟨k, hk, by rw [run_app2 ps ps2 b stop p sq hp k (by have := List.mem_range.1 hk; omega)]; exact h⟩
  rw [e]
theorem listF_congr {n : Nat} {f g : Nat → Int} (h : ∀ k, k < n → f k = g k) : listF n f = listF n g := by
  unfold listF
  exact List.map_congr_left fun k hk => h k (List.mem_range.1 hk)
theorem stopE_app2 {ps ps2 : List Bp} {k : Nat} (hk : k < ps2.length) (h : stopE ps2 (k : Int) = 0) : stopE (ps ++ ps2) ((ps.length + k : Nat) : Int) = 0 := by
  obtain ⟨k2, e, _, hl⟩ := stopE_ok h
  obtain rfl : k = k2 := by omega
  rw [stopE_in (by rw [List.length_append]; omega), gp_app2, if_neg (by rw [hl]; simp)]
/-- The squares of the two parts. -/
theorem sqAt_take {l : List Int} {n k : Nat} (h : k < n) : sqAt (l.take n) k = sqAt l k := by
  unfold sqAt
  rw [List.getD_eq_getElem?_getD, List.getD_eq_getElem?_getD, List.getElem?_take, if_pos h]
theorem sqAt_drop (l : List Int) (n k : Nat) : sqAt (l.drop n) k = sqAt l (n + k) := by
  unfold sqAt
  rw [List.getD_eq_getElem?_getD, List.getD_eq_getElem?_getD, List.getElem?_drop]
theorem sqE_sub {l m : List Int} (h : sqE l = 0) (hs : ∀ x ∈ m, x ∈ l) : sqE m = 0 := by
  unfold sqE at h ⊢
  split at h
  · rename_i h1
    rw [if_pos (List.all_eq_true.2 fun x hx => List.all_eq_true.1 h1 x (hs x hx))]
  · cases h
theorem sqs_parts {ps ps2 : List Bp} {l : List Int} (h : sqsE (ps ++ ps2) l = 0) : sqsE ps (l.take (ps.length + 1)) = 0 ∧ sqsE ps2 (l.drop ps.length) = 0 := by
  have hln := sqs_len h
  rw [List.length_append] at hln
  have h1 : sqE l = 0 := by unfold sqsE at h; rw [if_neg (by rw [List.length_append]; simpa using hln)] at h; exact h
  constructor
  · unfold sqsE
    rw [if_neg (by rw [List.length_take]; omega)]
    exact sqE_sub h1 fun x hx => List.mem_of_mem_take hx
  · unfold sqsE
    rw [if_neg (by rw [List.length_drop]; omega)]
    exact sqE_sub h1 fun x hx => List.mem_of_mem_drop hx
theorem zero_take {l : List Int} {n k : Nat} (h : k < n) : zeroS (l.take (n + 1)) k = zeroS l k := by unfold zeroS; rw [sqAt_take (by omega), sqAt_take (by omega)]
theorem zero_drop (l : List Int) (n k : Nat) : zeroS (l.drop n) k = zeroS l (n + k) := by unfold zeroS; rw [sqAt_drop, sqAt_drop, Nat.add_assoc]
theorem tlo_take (ps ps2 : List Bp) (l : List Int) : ∀ k, k ≤ ps.length → tloV (ps ++ ps2) l k = tloV ps (l.take (ps.length + 1)) k
  | 0, _ => rfl
  | k + 1, h => by rw [tloV, tloV, tlo_take ps ps2 l k (by omega), gp_app ps2 (by omega), sqAt_take (by omega), sqAt_take (by omega)]
theorem thi_take (ps ps2 : List Bp) (l : List Int) : ∀ k, k ≤ ps.length → thiV (ps ++ ps2) l k = thiV ps (l.take (ps.length + 1)) k
  | 0, _ => rfl
  | k + 1, h => by rw [thiV, thiV, thi_take ps ps2 l k (by omega), gp_app ps2 (by omega), sqAt_take (by omega), sqAt_take (by omega)]
theorem tlo_drop (ps ps2 : List Bp) (l : List Int) : ∀ k, tloV (ps ++ ps2) l (ps.length + k) = tloV ps (l.take (ps.length + 1)) ps.length + tloV ps2 (l.drop ps.length) k
  | 0 => by rw [Nat.add_zero, tlo_take ps ps2 l _ (Nat.le_refl _), tloV]; omega
  | k + 1 => by rw [← Nat.add_assoc, tloV, tloV, tlo_drop ps ps2 l k, gp_app2, sqAt_drop, sqAt_drop, Nat.add_assoc, Int.add_assoc]
theorem thi_drop (ps ps2 : List Bp) (l : List Int) : ∀ k, thiV (ps ++ ps2) l (ps.length + k) = thiV ps (l.take (ps.length + 1)) ps.length + thiV ps2 (l.drop ps.length) k
  | 0 => by rw [Nat.add_zero, thi_take ps ps2 l _ (Nat.le_refl _), thiV]; omega
  | k + 1 => by rw [← Nat.add_assoc, thiV, thiV, thi_drop ps ps2 l k, gp_app2, sqAt_drop, sqAt_drop, Nat.add_assoc, Int.add_assoc]
end Go.Proofs.Ytaghpemdcmjchaa
