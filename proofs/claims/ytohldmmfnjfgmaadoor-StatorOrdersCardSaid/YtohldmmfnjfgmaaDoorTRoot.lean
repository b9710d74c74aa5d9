
/-
  The walks of the roots: sort.Search with the program's closure, the reference's own loop.
-/
import Derived.Test.YtohldmmfnjfgmaaDoorTVecF
namespace Go.Proofs.YtohldmmfnjfgmaaDoor
open Go.RowKit

/-- r is the root of n, rounded up. -/
def IsUp (n : Int) (r : Nat) : Prop := n ≤ (r : Int) * r ∧ ∀ m : Nat, m < r → (m : Int) * m < n
/-- r is the root of n, rounded down. -/
def IsDn (n : Int) (r : Nat) : Prop := (r : Int) * r ≤ n ∧ n < ((r : Int) + 1) * (r + 1)
theorem IsUp.iff {n : Int} {r : Nat} (h : IsUp n r) (m : Nat) : n ≤ (m : Int) * m ↔ r ≤ m := by
  constructor
  · intro hm
    apply Nat.le_of_not_lt
    intro hlt
    have := h.2 m hlt
    omega
  · intro hm
    have := h.1
    have := sq_mono (x := (r : Int)) (y := m) (by omega) (by omega)
    omega
theorem IsDn.lt {n : Int} {r m : Nat} (h : IsDn n r) (hm : (m : Int) * m ≤ n) : m ≤ r := by
  apply Nat.le_of_not_lt
  intro hlt
  have := sq_mono (x := (r : Int) + 1) (y := m) (by omega) (by omega)
  have := h.2
  omega
/-- Up is down, or one more. -/
theorem IsUp.of_dn {n : Int} {r : Nat} (h : IsDn n r) : IsUp n (if (r : Int) * r < n then r + 1 else r) := by
  split
  · rename_i hlt
    refine ⟨by have := h.2; push_cast; omega, fun m hm => ?_⟩
    have := sq_mono (x := (m : Int)) (y := r) (by omega) (by omega)
    omega
  · rename_i hlt
    refine ⟨by omega, fun m hm => ?_⟩
    have h1 := h.1
    have h2 := sq_mono (x := (m : Int) + 1) (y := r) (by omega) (by omega)
    have e : ((m : Int) + 1) * (m + 1) = m * m + 2 * m + 1 := by grind
    omega
theorem IsUp.unique {n : Int} {r s : Nat} (h : IsUp n r) (g : IsUp n s) : r = s := by
  have h1 := (h.iff s).1 g.1
  have h2 := (g.iff r).1 h.1
  omega
theorem dn_exists : ∀ (k : Nat) (n : Int), 0 ≤ n → n < (k : Int) * k → ∃ r : Nat, IsDn n r
  | 0, n, h0, h => by simp at h; omega
  | k + 1, n, h0, h => by
    by_cases hk : n < (k : Int) * k
    · exact dn_exists k n h0 hk
    · exact ⟨k, by omega, by push_cast at h; exact h⟩

/-- A range in a box. -/
def RangeAt (w : World) (a b : Int) (e : Ending) (w' : World) : Prop := e = .returned (.agg #[.int .i64 a, .int .i64 b]) ∧ Below w.heap.size w w'
/-- The ends of a root. -/
def rootLo (n : Int) (r : Nat) : Int := if (r : Int) * r = n then r else r - 1
theorem two_pow (j : Nat) : (2 : Int) ^ (j + 1) = 2 * 2 ^ j := by rw [Int.pow_succ]; omega
end Go.Proofs.YtohldmmfnjfgmaaDoor
