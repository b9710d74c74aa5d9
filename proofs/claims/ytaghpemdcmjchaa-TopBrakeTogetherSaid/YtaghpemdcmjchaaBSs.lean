
/-
  The walk of the reference's StandsAt, of the program's with errors, and what is known of both at any arguments.
-/
import Derived.Test.YtaghpemdcmjchaaBSt2
import Derived.Test.YtaghpemdcmjchaaBLm2
import Derived.Test.YtaghpemdcmjchaaBKit
import Derived.Test.YtaghpemdcmjchaaBErr
namespace Go.Proofs.Ytaghpemdcmjchaa
open Go.RowKit

theorem floor_of {a b : Int} (hb : 1 ≤ b) (h : a.tmod b < 0) : a / b = a.tdiv b - 1 := by
  have h1 := Int.emod_nonneg a (show b ≠ 0 by omega)
  rw [Int.tmod_eq_emod] at h
  rw [Int.tdiv_eq_ediv]
  split at h
  · omega
  · rename_i hh
    rw [if_neg hh, Int.sign_eq_one_of_pos (by omega)]; omega
theorem floor_of' {a b : Int} (hb : 1 ≤ b) (h : ¬ a.tmod b < 0) : a / b = a.tdiv b := by
  have h1 := Int.emod_lt_of_pos a (show 0 < b by omega)
  rw [Int.tmod_eq_emod] at h
  rw [Int.tdiv_eq_ediv]
  split at h
  · rename_i hh
    rw [if_pos hh]; omega
  · omega
theorem div_bd {a b M : Int} (hM : 0 ≤ M) (hb : 1 ≤ b) (h0 : -M ≤ a) (h1 : a ≤ M) : -M ≤ a / b ∧ a / b ≤ M := by
  have l1 : a / b ≤ M := by
    have : a / b ≤ M / b := Int.ediv_le_ediv (by omega) h1
    have h2 : M / b ≤ M := Int.ediv_le_self _ hM
    omega
  have l2 : -M ≤ a / b := by
    rw [Int.le_ediv_iff_mul_le (by omega)]
    have : M * 1 ≤ M * b := Int.mul_le_mul_of_nonneg_left hb hM
    rw [Int.neg_mul]
    omega
  exact ⟨l2, l1⟩

theorem ceil_tdiv {a b : Int} (ha : 0 ≤ a) (hb : 1 ≤ b) : -(-a / b) = (a + b - 1).tdiv b := by
  rw [Int.tdiv_eq_ediv_of_nonneg (by omega)]
  have h1 := Int.mul_ediv_add_emod (-a) b
  have h2 := Int.emod_nonneg (-a) (show b ≠ 0 by omega)
  have h3 := Int.emod_lt_of_pos (-a) (show 0 < b by omega)
  obtain ⟨q, hq⟩ : ∃ q, -a / b = q := ⟨_, rfl⟩
  rw [hq] at h1 ⊢
  have h4 : b * q = -(b * (-q)) := by rw [Int.mul_neg, Int.neg_neg]
  symm
  rw [Int.ediv_eq_iff_of_pos (by omega)]
  rw [Int.mul_comm (-q) b]
  omega
theorem Fr.base6 {w W W' : World} {bs : List (Nat × TypeId × Array Value)} (h : Fr w W bs) (hb : Below W.heap.size W W') : Fr W W' bs := ⟨hb, fun b hm => (h.bk b hm).call hb⟩
theorem list_cell3 {w : World} {B : Nat} {a : Addr} {n k : Nat} {f : Nat → Int} (h : Lies w B (some a) (ic (listF n f))) (hk : k < n) : w.cell? (a.add k) = some (.int .i64 (f k)) := by
  obtain ⟨b, e, _, c⟩ := h.num (listF_at hk)
  injection e with e
  subst e
  exact c
/-- The train stands at the piece j of those ahead. -/
def stH (ps : List Bp) (d : Int) (p : Nat) (sq : Int) (j : Nat) : Prop := 0 < d + 10 * (gp ps (p + j)).grad ∧ sqS ps d p sq j ≤ lossV (gp ps (p + j)) d
theorem hit_iff {p : Bp} (hp : okP p = true) {d x : Int} : (0 < lossV p d ∧ x ≤ lossV p d) ↔ (0 < d + 10 * p.grad ∧ x ≤ lossV p d) := by
  have h1 := okP_iff.1 hp
  unfold lossV
  constructor
  · rintro ⟨h, h2⟩
    refine ⟨Decidable.by_contra fun hn => ?_, h2⟩
    have := Int.mul_nonpos_of_nonpos_of_nonneg (a := 2 * (d + 10 * p.grad)) (b := p.len) (by omega) (by omega)
    omega
  · rintro ⟨h, h2⟩
    exact ⟨Int.mul_pos (by omega) (by omega), h2⟩

end Go.Proofs.Ytaghpemdcmjchaa
