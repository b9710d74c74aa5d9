
/-
  The walks of the greatest step of a move, and of the errors of a move.
-/
import Derived.Test.YtohldmmfnjfgmaaDoorTFd
namespace Go.Proofs.YtohldmmfnjfgmaaDoor
open Go.RowKit

/-- The greatest size of a step so far. -/
def gsV (F : Nat → Int) : Nat → Int
  | 0 => 0
  | k + 1 => max (gsV F k) (max (F (k + 1) - F k) (-(F (k + 1) - F k)))
theorem gsV_bound {F : Nat → Int} {M : Int} (n : Nat) (hM : 0 ≤ M) (h : ∀ k, k ≤ n → -M ≤ F k ∧ F k ≤ M) : ∀ k, k ≤ n → 0 ≤ gsV F k ∧ gsV F k ≤ 2 * M
  | 0, _ => by show (0 : Int) ≤ 0 ∧ (0 : Int) ≤ 2 * M; omega
  | k + 1, hk => by
    have ih := gsV_bound n hM h k (by omega)
    have a := h k (by omega)
    have b := h (k + 1) hk
    show 0 ≤ max (gsV F k) (max (F (k + 1) - F k) (-(F (k + 1) - F k))) ∧ max (gsV F k) (max (F (k + 1) - F k) (-(F (k + 1) - F k))) ≤ 2 * M
    omega
/-- The error of a move on a right track. -/
def mvE (ls : List Int) (p len mv : Int) : Int := if inB mv 1 2000 = false then 2 else if p + len + mv ≤ begV ls ls.length then 0 else 23
/-- The force behind so many steps. -/
def frcAt (ls : List Int) (p len : Int) (cs : List T3) (fl : T3) (k : Nat) : Int := frcV ls (p + k) len cs fl
theorem fed_on {ls : List Int} {p len mv : Int} {cs : List T3} {fl : T3} (hf : Fed ls p len cs fl) (hm : mvE ls p len mv = 0) (k : Nat) (hk : (k : Int) ≤ mv) : Fed ls (p + k) len cs fl := by
  unfold mvE at hm
  split at hm
  · cases hm
  · split at hm
    · refine ⟨⟨hf.q.n0, hf.q.n1, hf.q.x, hf.q.l0, hf.q.l1, by have := hf.q.p0; omega, by omega⟩, hf.n, hf.c, hf.f⟩
    · cases hm
theorem mvE_ok {ls : List Int} {p len mv : Int} (hm : mvE ls p len mv = 0) : inB mv 1 2000 = true ∧ p + len + mv ≤ begV ls ls.length := by
  unfold mvE at hm
  split at hm
  · cases hm
  · split at hm
    · refine ⟨by rename_i h _; cases h2 : inB mv 1 2000 <;> simp [h2] at h ⊢, by assumption⟩
    · cases hm
theorem frcAt_bound {ls : List Int} {p len mv : Int} {cs : List T3} {fl : T3} (hf : Fed ls p len cs fl) (hm : mvE ls p len mv = 0) (k : Nat) (hk : (k : Int) ≤ mv) : -840000000000000000 ≤ frcAt ls p len cs fl k ∧ frcAt ls p len cs fl k ≤ 840000000000000000 := by
  have h := fed_on hf hm k hk
  exact frcT_bound h ls.length (by have := h.q.n1; omega)

end Go.Proofs.YtohldmmfnjfgmaaDoor
