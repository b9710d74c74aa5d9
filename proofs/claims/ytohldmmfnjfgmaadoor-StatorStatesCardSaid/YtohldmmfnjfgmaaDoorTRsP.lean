
/-
  The plain facts behind StatorRest: what was wanted is what was sent and what is left.
-/
import Derived.Test.YtohldmmfnjfgmaaDoorTMod
namespace Go.Proofs.YtohldmmfnjfgmaaDoor
open Go.RowKit

/-- The state of a pulse. -/
def stAt (M : Int) (xs : List T3) (k : Nat) : Nat := nearV M ((leftV M T3.zero (xs.take k)).add ((xs[k]?).getD T3.zero))
/-- What was sent. -/
def sentV (M : Int) (xs : List T3) : Nat → T3
  | 0 => T3.zero
  | k + 1 => (sentV M xs k).add ⟨M * (stV (stAt M xs k)).a, M * (stV (stAt M xs k)).b⟩
theorem stAt_lt (M : Int) (xs : List T3) (k : Nat) : stAt M xs k < 8 := nearV_lt _ _
theorem take_snoc {xs : List T3} {k : Nat} {x : T3} (h : xs[k]? = some x) : xs.take (k + 1) = xs.take k ++ [x] := by
  rw [List.take_add_one, h]; rfl
theorem left_next {M : Int} {xs : List T3} {k : Nat} {x : T3} (h : xs[k]? = some x) : leftV M T3.zero (xs.take (k + 1)) = wout M ((leftV M T3.zero (xs.take k)).add x) (stAt M xs k) := by
  rw [take_snoc h, leftV_snoc]
  unfold stAt
  rw [h]; rfl
theorem sts_at {M : Int} {xs : List T3} {k : Nat} (h : k < xs.length) : (stsV M xs)[k]? = some (stAt M xs k : Int) := by
  unfold stsV
  rw [List.getElem?_map, pulses_at M xs T3.zero k h]
  unfold stAt
  rw [List.getElem?_eq_getElem h]; rfl
theorem lft_at {M : Int} {xs : List T3} {k : Nat} (h : k < xs.length) : (lftV M xs)[k]? = some (leftV M T3.zero (xs.take (k + 1))) := by
  unfold lftV
  rw [List.getElem?_map, pulses_at M xs T3.zero k h]; rfl
theorem sent_left (M : Int) (xs : List T3) : ∀ k : Nat, k ≤ xs.length → (sumT (xs.take k)).sub (sentV M xs k) = leftV M T3.zero (xs.take k)
  | 0, _ => by simp [sumT, sentV, leftV, T3.sub, T3.zero]
  | k + 1, h => by
    have ih := sent_left M xs k (by omega)
    obtain ⟨x, hx⟩ : ∃ x, xs[k]? = some x := ⟨_, List.getElem?_eq_getElem (by omega)⟩
    rw [left_next hx, take_snoc hx, sumT_snoc, ← ih]
    apply T3.eq
    · simp [sentV, T3.sub, T3.add, wout]; omega
    · simp [sentV, T3.sub, T3.add, wout]; omega
theorem sent_bd {M : Int} (hM : 0 ≤ M ∧ M ≤ 100000) (xs : List T3) : ∀ k : Nat, (-(k * 100000 : Int) ≤ (sentV M xs k).a ∧ (sentV M xs k).a ≤ k * 100000) ∧ -(k * 100000 : Int) ≤ (sentV M xs k).b ∧ (sentV M xs k).b ≤ k * 100000
  | 0 => by simp [sentV, T3.zero]
  | k + 1 => by
    have ih := sent_bd hM xs k
    obtain ⟨⟨a0, a1⟩, b0, b1⟩ := stV_in (stAt M xs k)
    have p := scl_in (M := M) (by omega) a0 a1
    have q := scl_in (M := M) (by omega) b0 b1
    simp only [sentV, T3.add]
    omega
theorem sumT_bd (xs : List T3) (h : ∀ x ∈ xs, okT x = true) : ∀ k : Nat, k ≤ xs.length → (-(k * 100000 : Int) ≤ (sumT (xs.take k)).a ∧ (sumT (xs.take k)).a ≤ k * 100000) ∧ -(k * 100000 : Int) ≤ (sumT (xs.take k)).b ∧ (sumT (xs.take k)).b ≤ k * 100000
  | 0, _ => by simp [sumT, T3.zero]
  | k + 1, hk => by
    have ih := sumT_bd xs h k (by omega)
    obtain ⟨x, hx⟩ : ∃ x, xs[k]? = some x := ⟨_, List.getElem?_eq_getElem (by omega)⟩
    have hb := okT_iff.1 (h x (List.mem_of_getElem? hx))
    rw [take_snoc hx, sumT_snoc]
    simp only [T3.add]
    omega
theorem near_ok {M : Int} {v : T3} (hM : M ≤ 100000) (h : nearB M v = true) : okT v = true := by
  have := nearB_iff.1 h
  exact okT_iff.2 (by omega)
theorem left_near {M : Int} (hM : 0 < M) {xs : List T3} (h : xs.all (nearB M) = true) (k : Nat) : nearB M (leftV M T3.zero (xs.take k)) = true :=
  leftV_near hM (xs.take k) T3.zero (fun x hx => by rw [List.all_eq_true] at h; exact h x (List.mem_of_mem_take hx)) (near_zero hM)
end Go.Proofs.YtohldmmfnjfgmaaDoor
