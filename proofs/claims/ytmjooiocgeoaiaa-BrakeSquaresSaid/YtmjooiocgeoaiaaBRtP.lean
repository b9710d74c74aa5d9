
/-
  The root by its bits: plain facts (towards the reference's Root and RootUp).
-/
import Derived.Test.YtmjooiocgeoaiaaBRt
namespace Go.Proofs.Ytmjooiocgeoaiaa

/-- A number whose square is at most q, and whose follower's is greater, is the root rounded down; with one more where it falls short, the root rounded up. -/
theorem rt_of_floor {q : Int} {r : Nat} (h1 : (r : Int) * r ≤ q) (h2 : q < ((r : Int) + 1) * ((r : Int) + 1)) : (r : Int) = rtL q ∧ (if (r : Int) * r < q then (r : Int) + 1 else r) = (rtU q : Int) := by
  by_cases h : (r : Int) * r = q
  · have e : r = rtU q := rtU_eq (by omega) (fun v hv => by
      have h3 : (v : Int) * v ≤ (v : Int) * r := Int.mul_le_mul_of_nonneg_left (by omega) (by omega)
      have h4 : (v : Int) * r < (r : Int) * r := Int.mul_lt_mul_of_pos_right (by omega) (by omega)
      omega)
    refine ⟨?_, ?_⟩
    · unfold rtL; rw [← e, if_pos h]
    · rw [if_neg (by omega), ← e]
  · have e : r + 1 = rtU q := rtU_eq (by push_cast; omega) (fun v hv => by
      have h3 : (v : Int) * v ≤ (r : Int) * r := Int.mul_le_mul (by omega) (by omega) (by omega) (by omega)
      omega)
    refine ⟨?_, ?_⟩
    · unfold rtL
      rw [← e, if_neg (by push_cast; omega)]
      push_cast
      omega
    · rw [if_pos (by omega), ← e]
      push_cast
      omega
end Go.Proofs.Ytmjooiocgeoaiaa
