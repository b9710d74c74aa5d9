/-
  Plain facts: a line with narrower Off has deviations within those that there were.
-/
import Derived.Test.YtmnlgeglmkdecaaPosA
namespace Go.Proofs.Ytmnlgeglmkdecaa
open Go.RowKit

theorem upTo_mono {g h : Nat → Int} (hgh : ∀ i, g i ≤ h i) (r k : Nat) : upTo g r k ≤ upTo h r k := by
  unfold upTo
  induction List.range' r (k - r) with
  | nil => simp
  | cons x l ih =>
    simp only [List.map_cons, List.sum_cons]
    have := hgh x
    omega
/-- Joints, one by one, at the same place, with an Off within. -/
def NarJ (j j' : Lj) : Prop := j'.x = j.x ∧ j'.u = j.u ∧ j.lo ≤ j'.lo ∧ j'.lo ≤ j'.hi ∧ j'.hi ≤ j.hi
structure Nar (L : Ll) (js : List Lj) : Prop where
  n : js.length = L.js.length
  at_ : ∀ (i : Nat) (j j' : Lj), L.js[i]? = some j → js[i]? = some j' → NarJ j j'
def withJ (L : Ll) (js : List Lj) : Ll := { L with js := js }
section
variable {L : Ll} {js : List Lj}
theorem Nar.err (h : Nar L js) (hr : Right L) : ∀ j ∈ js, jErr j = 0 := fun j' hj => by
  obtain ⟨i, hi, rfl⟩ := List.getElem_of_mem hj
  have hi2 : i < L.js.length := by rw [← h.n]; exact hi
  obtain ⟨a, b, c, d, e⟩ := h.at_ i _ _ (List.getElem?_eq_getElem hi2) (List.getElem?_eq_getElem hi)
  have hj0 := hr.j _ (List.getElem_mem hi2)
  unfold jErr at hj0 ⊢
  split at hj0
  · rename_i h1
    simp only [Bool.and_eq_true, inB_iff] at h1
    rw [if_pos (by simp only [Bool.and_eq_true, inB_iff]; omega), if_neg (by omega)]
  · cases hj0
theorem Nar.right (h : Nar L js) (hr : Right L) : Right (withJ L js) :=
  ⟨hr.one, hr.most, by show js.length = _; rw [h.n]; exact hr.jb, h.err hr, hr.b, hr.s, hr.n4, hr.name⟩
theorem Nar.ok (h : Nar L js) (hr : Right L) (hL : L.ok) : (withJ L js).ok :=
  ⟨hL.name, fun j hj => by
    have := joint_in (h.err hr j hj)
    have h2 := h.err hr j hj
    unfold jErr at h2
    split at h2
    · rename_i h1
      simp only [Bool.and_eq_true, inB_iff] at h1
      refine ⟨⟨?_, ?_⟩, ⟨?_, ?_⟩, ⟨?_, ?_⟩, ⟨?_, ?_⟩⟩ <;> omega
    · exact absurd h2 (by decide), hL.bs, hL.ss, by show js.length ≤ _; rw [h.n]; exact hL.nj, hL.nb, hL.ns, hL.na⟩
theorem Nar.ck (h : Nar L js) (hr : Right L) (hck : ckLine L = ((0, 0), 0)) : ckLine (withJ L js) = ((0, 0), 0) := by
  have hw : wholeErr (withJ L js) = 0 := by
    have h0 := ck_ok (L := L) (by rw [hck])
    unfold wholeErr at h0 ⊢
    show (if nameB L.name.data.toList = false then 4 else if L.bs.length = 0 ∨ js.length ≠ L.bs.length + 1 then 10 else if 40 < L.bs.length then 8 else 0) = (0 : Int)
    rw [h.n]
    exact h0
  unfold ckLine
  rw [if_neg (by rw [hw]; simp)]
  rw [firstErr_none jErr (withJ L js).js 0 (h.err hr), firstErr_none bErr (withJ L js).bs 0 hr.b]
  rw [if_neg (by simp), if_neg (by simp), if_neg (by have := hr.n4; show ¬ 4 < L.ss.length; omega)]
  exact hr.s
theorem beamOf_with (L : Ll) (js : List Lj) (p : Int) : beamOf (withJ L js) p = beamOf L p := by
  unfold beamOf
  show beamFrom (withJ L js) p (L.bs.length - 1) = _
  induction L.bs.length - 1 with
  | zero => rfl
  | succ k ih =>
    rw [beamFrom, beamFrom, ih]
    rfl
theorem frontOf_with (L : Ll) (js : List Lj) (p : Int) : frontOf (withJ L js) p = frontOf L p := by
  unfold frontOf
  rw [beamOf_with]
  rfl
theorem benN_with (L : Ll) (js : List Lj) (v : Lv) (p : Int) : benN (withJ L js) v p = benN L v p := by
  unfold benN
  rw [beamOf_with, frontOf_with]
theorem benB_with (L : Ll) (js : List Lj) (v : Lv) (p j : Int) : benB (withJ L js) v p j = benB L v p j := by
  unfold benB
  rw [beamOf_with, frontOf_with]
theorem devF_with (L : Ll) (js : List Lj) (v : Lv) (p : Int) (j : Nat) : devF (withJ L js) v p j = devF L v p j := by
  unfold devF
  rw [beamOf_with, beamOf_with]
  rfl
theorem devW_with (L : Ll) (js : List Lj) (v : Lv) (p : Int) : devW (withJ L js) v p = devW L v p := by
  unfold devW
  rw [beamOf_with, beamOf_with]
  rfl
theorem le_ceil_of {a b c : Int} (hc : 0 < c) (h : a ≤ b) : a / c ≤ -(-b / c) := by
  have h1 : a / c ≤ b / c := Int.ediv_le_ediv hc h
  have h2 : b / c * c ≤ b := Int.ediv_mul_le b (by omega)
  have h3 : -b / c ≤ -(b / c) * c / c := Int.ediv_le_ediv hc (by rw [Int.neg_mul]; omega)
  rw [Int.mul_ediv_cancel _ (by omega)] at h3
  omega
theorem ceil_mono {a b c : Int} (hc : 0 < c) (h : a ≤ b) : -(-a / c) ≤ -(-b / c) := by
  have : -b / c ≤ -a / c := Int.ediv_le_ediv hc (by omega)
  omega
theorem Nar.add_lo (h : Nar L js) (f : Nat → Int) (i : Nat) : addLo L f i ≤ addLo (withJ L js) f i := by
  unfold addLo
  show _ ≤ (match js[i]? with | some j => f i * (j.x + if f i < 0 then j.hi else j.lo) | none => 0)
  by_cases hi : i < js.length
  · have hi2 : i < L.js.length := by rw [← h.n]; exact hi
    rw [List.getElem?_eq_getElem hi, List.getElem?_eq_getElem hi2]
    obtain ⟨a, b, c, d, e⟩ := h.at_ i _ _ (List.getElem?_eq_getElem hi2) (List.getElem?_eq_getElem hi)
    simp only
    split
    · exact Int.mul_le_mul_of_nonpos_left (by omega) (by omega)
    · exact Int.mul_le_mul_of_nonneg_left (by omega) (by omega)
  · rw [List.getElem?_eq_none (l := js) (by omega), List.getElem?_eq_none (l := L.js) (by have := h.n; omega)]
    exact Int.le_refl _
theorem Nar.add_hi (h : Nar L js) (f : Nat → Int) (i : Nat) : addHi (withJ L js) f i ≤ addHi L f i := by
  unfold addHi
  show (match js[i]? with | some j => f i * (j.x + if f i < 0 then j.lo else j.hi) | none => 0) ≤ _
  by_cases hi : i < js.length
  · have hi2 : i < L.js.length := by rw [← h.n]; exact hi
    rw [List.getElem?_eq_getElem hi, List.getElem?_eq_getElem hi2]
    obtain ⟨a, b, c, d, e⟩ := h.at_ i _ _ (List.getElem?_eq_getElem hi2) (List.getElem?_eq_getElem hi)
    simp only
    split
    · exact Int.mul_le_mul_of_nonpos_left (by omega) (by omega)
    · exact Int.mul_le_mul_of_nonneg_left (by omega) (by omega)
  · rw [List.getElem?_eq_none (l := js) (by omega), List.getElem?_eq_none (l := L.js) (by have := h.n; omega)]
    exact Int.le_refl _
theorem Nar.add_both (h : Nar L js) (f : Nat → Int) (i : Nat) : addLo (withJ L js) f i ≤ addHi (withJ L js) f i := by
  unfold addLo addHi
  show (match js[i]? with | some j => f i * (j.x + if f i < 0 then j.hi else j.lo) | none => 0) ≤ (match js[i]? with | some j => f i * (j.x + if f i < 0 then j.lo else j.hi) | none => 0)
  by_cases hi : i < js.length
  · have hi2 : i < L.js.length := by rw [← h.n]; exact hi
    rw [List.getElem?_eq_getElem hi]
    obtain ⟨a, b, c, d, e⟩ := h.at_ i _ _ (List.getElem?_eq_getElem hi2) (List.getElem?_eq_getElem hi)
    simp only
    split
    · exact Int.mul_le_mul_of_nonpos_left (by omega) (by omega)
    · exact Int.mul_le_mul_of_nonneg_left (by omega) (by omega)
  · rw [List.getElem?_eq_none (by omega)]
    exact Int.le_refl _
/-- The deviations of the narrower line lie within. -/
theorem Nar.dev (h : Nar L js) {v : Lv} {p : Int} (hW : 0 < devW L v p) (k : Nat) :
    devLo L v p k ≤ devLo (withJ L js) v p k ∧ devLo (withJ L js) v p k ≤ devHi (withJ L js) v p k ∧ devHi (withJ L js) v p k ≤ devHi L v p k := by
  unfold devLo devHi
  rw [devF_with, devW_with, beamOf_with, beamOf_with]
  exact ⟨Int.ediv_le_ediv hW (upTo_mono (h.add_lo _) _ _), le_ceil_of hW (upTo_mono (h.add_both _) _ _), ceil_mono hW (upTo_mono (h.add_hi _) _ _)⟩
theorem devW_pos (hr : Right L) {v : Lv} (hv : vErr v = 0) {p : Int} (p0 : 0 ≤ p) : 0 < devW L v p := by
  obtain ⟨⟨l1, l2⟩, _⟩ := vErr_in hv
  have h1 := lenL_in hr (beamOf_at hr p0).1
  have h2 := lenL_in hr (beamOf_at hr (show 0 ≤ p + v.len by omega)).1
  unfold devW
  exact Int.mul_pos (Int.mul_pos (by omega) (by omega)) (by omega)
end
end Go.Proofs.Ytmnlgeglmkdecaa
