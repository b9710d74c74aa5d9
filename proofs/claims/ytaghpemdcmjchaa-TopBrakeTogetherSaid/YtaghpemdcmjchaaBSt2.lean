
/-
  The walk of StandsAt of the program, where the train stands at no piece; what it returns at any state.
-/
import Derived.Test.YtaghpemdcmjchaaBStd
namespace Go.Proofs.Ytaghpemdcmjchaa
open Go.RowKit

/-- Up to the first piece at which the train stands its square is at least 0. -/
theorem sqS_pos {ps : List Bp} (hx : ∀ q ∈ ps, okP q = true) {d : Int} {p : Nat} {sq : Int} (hq : 0 ≤ sq) : ∀ k, (∀ j, j < k → ¬ (0 < d + 10 * (gp ps (p + j)).grad ∧ sqS ps d p sq j ≤ lossV (gp ps (p + j)) d)) → 0 ≤ sqS ps d p sq k
  | 0, _ => hq
  | k + 1, h => by
    have ih := sqS_pos hx hq k (fun j hj => h j (by omega))
    have h1 := h k (by omega)
    have h2 := okP_iff.1 (gp_ok hx (p + k))
    rw [sqS]
    by_cases hd : 0 < d + 10 * (gp ps (p + k)).grad
    · have : ¬ sqS ps d p sq k ≤ lossV (gp ps (p + k)) d := fun e => h1 ⟨hd, e⟩
      omega
    · have : lossV (gp ps (p + k)) d ≤ 0 := by
        unfold lossV
        exact Int.mul_nonpos_of_nonpos_of_nonneg (by omega) (by omega)
      omega
end Go.Proofs.Ytaghpemdcmjchaa
