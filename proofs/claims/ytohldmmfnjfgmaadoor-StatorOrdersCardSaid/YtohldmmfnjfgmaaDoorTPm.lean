
/-
  Plain words for a converter's states and pulses (chapter 3): the nearest state, what is left, and that it is bounded.
-/
import Derived.Test.YtohldmmfnjfgmaaDoorTPl
namespace Go.Proofs.YtohldmmfnjfgmaaDoor

/-- The vector of a state. -/
def stV : Nat → T3
  | 1 => ⟨-1, -1⟩
  | 2 => ⟨0, 1⟩
  | 3 => ⟨-1, 0⟩
  | 4 => ⟨1, 0⟩
  | 5 => ⟨0, -1⟩
  | 6 => ⟨1, 1⟩
  | _ => ⟨0, 0⟩
/-- What is left of a vector behind a state. -/
def wout (M : Int) (v : T3) (s : Nat) : T3 := ⟨v.a - M * (stV s).a, v.b - M * (stV s).b⟩
/-- The nearest state, looked for from s on, with the best so far. -/
def nearFrom (M : Int) (v : T3) : Nat → Nat → Nat → Nat
  | 0, _, best => best
  | n + 1, s, best => nearFrom M v n (s + 1) (if (wout M v s).nrm < (wout M v best).nrm then s else best)
def nearV (M : Int) (v : T3) : Nat := nearFrom M v 8 0 0
theorem near_one (M : Int) (v : T3) : nearV M v = nearFrom M v 7 1 0 := by
  unfold nearV
  rw [nearFrom, if_neg (by omega)]
theorem nearFrom_lt (M : Int) (v : T3) : ∀ n s best, best < s + n → n ≠ 0 → nearFrom M v n s best < s + n
  | 0, _, _, _, h => absurd rfl h
  | n + 1, s, best, hb, _ => by
    rw [nearFrom]
    by_cases hn : n = 0
    · subst hn
      rw [nearFrom]; split <;> omega
    · have := nearFrom_lt M v n (s + 1) (if (wout M v s).nrm < (wout M v best).nrm then s else best) (by split <;> omega) hn
      omega
theorem nearV_lt (M : Int) (v : T3) : nearV M v < 8 := nearFrom_lt M v 8 0 0 (by omega) (by omega)
theorem nearFrom_best (M : Int) (v : T3) : ∀ n s best, (wout M v (nearFrom M v n s best)).nrm ≤ (wout M v best).nrm ∧ ∀ t, s ≤ t → t < s + n → (wout M v (nearFrom M v n s best)).nrm ≤ (wout M v t).nrm
  | 0, s, best => ⟨by simp [nearFrom], fun t h h' => by omega⟩
  | n + 1, s, best => by
    rw [nearFrom]
    obtain ⟨h1, h2⟩ := nearFrom_best M v n (s + 1) (if (wout M v s).nrm < (wout M v best).nrm then s else best)
    generalize nearFrom M v n (s + 1) (if (wout M v s).nrm < (wout M v best).nrm then s else best) = r at h1 h2
    by_cases hc : (wout M v s).nrm < (wout M v best).nrm
    · rw [if_pos hc] at h1
      refine ⟨by omega, fun t ht ht' => ?_⟩
      by_cases e : t = s
      · subst e; exact h1
      · exact h2 t (by omega) (by omega)
    · rw [if_neg hc] at h1
      refine ⟨h1, fun t ht ht' => ?_⟩
      by_cases e : t = s
      · subst e; omega
      · exact h2 t (by omega) (by omega)
theorem nearV_best (M : Int) (v : T3) (t : Nat) (ht : t < 8) : (wout M v (nearV M v)).nrm ≤ (wout M v t).nrm := (nearFrom_best M v 8 0 0).2 t (by omega) (by omega)

/-- Is it near? -/
def nearB (M : Int) (v : T3) : Bool := inB (2 * v.a - v.b) (-M) M && inB (2 * v.b - v.a) (-M) M && inB (v.a + v.b) (-M) M
theorem nearB_iff {M : Int} {v : T3} : nearB M v = true ↔ (-M ≤ 2 * v.a - v.b ∧ 2 * v.a - v.b ≤ M) ∧ (-M ≤ 2 * v.b - v.a ∧ 2 * v.b - v.a ≤ M) ∧ -M ≤ v.a + v.b ∧ v.a + v.b ≤ M := by
  simp [nearB, inB_iff, and_assoc]
theorem near_lin {M a b x y : Int} (hM : 0 < M) (h : a * a - a * b + b * b ≤ (a - M * x) * (a - M * x) - (a - M * x) * (b - M * y) + (b - M * y) * (b - M * y)) :
    2 * (a * x) - a * y - b * x + 2 * (b * y) ≤ M * (x * x - x * y + y * y) := by
  have e : (a - M * x) * (a - M * x) - (a - M * x) * (b - M * y) + (b - M * y) * (b - M * y) = (a * a - a * b + b * b) - M * ((2 * (a * x) - a * y - b * x + 2 * (b * y)) - M * (x * x - x * y + y * y)) := by grind
  rw [e] at h
  apply Int.not_lt.1
  intro hc
  have := Int.mul_pos hM (show 0 < (2 * (a * x) - a * y - b * x + 2 * (b * y)) - M * (x * x - x * y + y * y) by omega)
  omega
/-- u is what is left behind s; t is another state. -/
theorem near_one_lin {M : Int} {u : T3} (hM : 0 < M) (e : T3) (h : u.nrm ≤ (T3.mk (u.a - M * e.a) (u.b - M * e.b)).nrm) : 2 * (u.a * e.a) - u.a * e.b - u.b * e.a + 2 * (u.b * e.b) ≤ M * (e.a * e.a - e.a * e.b + e.b * e.b) :=
  near_lin hM (by simpa [T3.nrm] using h)
theorem wout_wout (M : Int) (v : T3) (s t : Nat) : wout M v t = ⟨(wout M v s).a - M * ((stV t).a - (stV s).a), (wout M v s).b - M * ((stV t).b - (stV s).b)⟩ := by
  apply T3.eq <;> simp [wout] <;> grind
theorem rest_near {M : Int} {l x : T3} (hM : 0 < M) (hl : nearB M l = true) (hx : nearB M x = true) : nearB M (wout M (l.add x) (nearV M (l.add x))) = true := by
  have h1 := nearB_iff.1 hl
  have h2 := nearB_iff.1 hx
  have key : ∀ t, t < 8 → _ := fun t ht => near_one_lin hM ⟨(stV t).a - (stV (nearV M (l.add x))).a, (stV t).b - (stV (nearV M (l.add x))).b⟩ (by rw [← wout_wout]; exact nearV_best M (l.add x) t ht)
  have hs := nearV_lt M (l.add x)
  generalize nearV M (l.add x) = s at key hs
  rw [nearB_iff]
  have k1 := key 1 (by omega)
  have k2 := key 2 (by omega)
  have k3 := key 3 (by omega)
  have k4 := key 4 (by omega)
  have k5 := key 5 (by omega)
  have k6 := key 6 (by omega)
  have k0 := key 0 (by omega)
  clear key
  have hs' : s = 0 ∨ s = 1 ∨ s = 2 ∨ s = 3 ∨ s = 4 ∨ s = 5 ∨ s = 6 ∨ s = 7 := by omega
  rcases hs' with rfl | rfl | rfl | rfl | rfl | rfl | rfl | rfl <;> simp only [wout, stV, T3.add] at k0 k1 k2 k3 k4 k5 k6 ⊢ <;> omega
theorem pq_bound {M p q : Int} (hp : -M ≤ p ∧ p ≤ M) (hq : -M ≤ q ∧ q ≤ M) (hr : -M ≤ p + q ∧ p + q ≤ M) : p * p + p * q + q * q ≤ M * M := by
  have a1 : p * p ≤ M * M := abs_sq_le (by omega)
  have a2 : q * q ≤ M * M := abs_sq_le (by omega)
  have a3 : (p + q) * (p + q) ≤ M * M := abs_sq_le (by omega)
  have e3 : (p + q) * (p + q) = p * p + 2 * (p * q) + q * q := by grind
  have e1 : p * p + p * q + q * q = p * p + q * (p + q) := by grind
  have e2 : p * p + p * q + q * q = q * q + p * (p + q) := by grind
  rcases Int.le_total 0 p with h | h <;> rcases Int.le_total 0 q with g | g
  · have := Int.mul_nonneg h g; omega
  · rcases Int.le_total 0 (p + q) with k | k
    · have := Int.mul_nonneg (show 0 ≤ -q by omega) k; rw [Int.neg_mul] at this; omega
    · have := Int.mul_nonneg h (show 0 ≤ -(p + q) by omega); rw [Int.mul_neg] at this; omega
  · rcases Int.le_total 0 (p + q) with k | k
    · have := Int.mul_nonneg (show 0 ≤ -p by omega) k; rw [Int.neg_mul] at this; omega
    · have := Int.mul_nonneg g (show 0 ≤ -(p + q) by omega); rw [Int.mul_neg] at this; omega
  · have := Int.mul_nonneg (show 0 ≤ -p by omega) (show 0 ≤ -q by omega); rw [Int.neg_mul_neg] at this; omega
/-- A near vector's square. -/
theorem near_nrm {M : Int} {v : T3} (h : nearB M v = true) : 3 * v.nrm ≤ M * M := by
  obtain ⟨h1, h3, h5⟩ := nearB_iff.1 h
  have := pq_bound (M := M) (p := 2 * v.a - v.b) (q := 2 * v.b - v.a) h1 h3 (by omega)
  have e : (2 * v.a - v.b) * (2 * v.a - v.b) + (2 * v.a - v.b) * (2 * v.b - v.a) + (2 * v.b - v.a) * (2 * v.b - v.a) = 3 * v.nrm := by unfold T3.nrm; grind
  omega

/-- The pulses for wants: states, and what is left behind each. -/
def pulses (M : Int) : T3 → List T3 → List (Nat × T3)
  | _, [] => []
  | l, x :: xs => (nearV M (l.add x), wout M (l.add x) (nearV M (l.add x))) :: pulses M (wout M (l.add x) (nearV M (l.add x))) xs
/-- What is left behind all. -/
def leftV (M : Int) : T3 → List T3 → T3
  | l, [] => l
  | l, x :: xs => leftV M (wout M (l.add x) (nearV M (l.add x))) xs
theorem pulses_len (M : Int) : ∀ (xs : List T3) (l : T3), (pulses M l xs).length = xs.length
  | [], _ => rfl
  | _ :: xs, l => by rw [pulses, List.length_cons, pulses_len M xs]; rfl
theorem pulses_snoc (M : Int) : ∀ (xs : List T3) (l x : T3), pulses M l (xs ++ [x]) = pulses M l xs ++ [(nearV M ((leftV M l xs).add x), wout M ((leftV M l xs).add x) (nearV M ((leftV M l xs).add x)))]
  | [], l, x => rfl
  | y :: xs, l, x => by rw [List.cons_append, pulses, pulses_snoc M xs, pulses, leftV]; rfl
theorem leftV_snoc (M : Int) : ∀ (xs : List T3) (l x : T3), leftV M l (xs ++ [x]) = wout M ((leftV M l xs).add x) (nearV M ((leftV M l xs).add x))
  | [], l, x => rfl
  | y :: xs, l, x => by rw [List.cons_append, leftV, leftV_snoc M xs, leftV]
theorem stV_in (s : Nat) : (-1 ≤ (stV s).a ∧ (stV s).a ≤ 1) ∧ -1 ≤ (stV s).b ∧ (stV s).b ≤ 1 := by
  unfold stV; split <;> simp
theorem scl_in {M x : Int} (hM : 0 ≤ M) (h0 : -1 ≤ x) (h1 : x ≤ 1) : -M ≤ M * x ∧ M * x ≤ M := by
  have h : x = -1 ∨ x = 0 ∨ x = 1 := by omega
  rcases h with rfl | rfl | rfl <;> simp <;> omega
theorem wout_in {M K : Int} {v : T3} (hM : 0 ≤ M) (s : Nat) (h : (-K ≤ v.a ∧ v.a ≤ K) ∧ -K ≤ v.b ∧ v.b ≤ K) : (-(K + M) ≤ (wout M v s).a ∧ (wout M v s).a ≤ K + M) ∧ -(K + M) ≤ (wout M v s).b ∧ (wout M v s).b ≤ K + M := by
  obtain ⟨⟨a0, a1⟩, b0, b1⟩ := stV_in s
  have := scl_in hM a0 a1
  have := scl_in hM b0 b1
  unfold wout
  exact ⟨⟨by simp only; omega, by simp only; omega⟩, by simp only; omega, by simp only; omega⟩
/-- What is left stays bounded. -/
theorem leftV_in {M W : Int} (hM : 0 ≤ M) : ∀ (xs : List T3) (l : T3) (K : Int), (∀ x ∈ xs, (-W ≤ x.a ∧ x.a ≤ W) ∧ -W ≤ x.b ∧ x.b ≤ W) → ((-K ≤ l.a ∧ l.a ≤ K) ∧ -K ≤ l.b ∧ l.b ≤ K) →
    (-(K + (xs.length : Int) * (W + M)) ≤ (leftV M l xs).a ∧ (leftV M l xs).a ≤ K + (xs.length : Int) * (W + M)) ∧ -(K + (xs.length : Int) * (W + M)) ≤ (leftV M l xs).b ∧ (leftV M l xs).b ≤ K + (xs.length : Int) * (W + M)
  | [], l, K, _, h => by simp [leftV]; omega
  | x :: xs, l, K, hx, h => by
    have h1 := hx x (by simp)
    have h2 := wout_in (v := l.add x) (K := K + W) hM (nearV M (l.add x)) (by simp only [T3.add]; omega)
    have h3 := leftV_in hM xs (wout M (l.add x) (nearV M (l.add x))) (K + W + M) (fun y hy => hx y (by simp [hy])) h2
    rw [leftV]
    have e : K + W + M + (xs.length : Int) * (W + M) = K + ((xs.length : Int) + 1) * (W + M) := by grind
    rw [e] at h3
    rw [List.length_cons]
    push_cast
    exact h3
/-- If all wants are near, so is what is left. -/
theorem leftV_near {M : Int} (hM : 0 < M) : ∀ (xs : List T3) (l : T3), (∀ x ∈ xs, nearB M x = true) → nearB M l = true → nearB M (leftV M l xs) = true
  | [], _, _, h => h
  | x :: xs, l, hx, h => leftV_near hM xs _ (fun y hy => hx y (by simp [hy])) (rest_near hM h (hx x (by simp)))
theorem near_zero {M : Int} (hM : 0 < M) : nearB M T3.zero = true := by rw [nearB_iff]; simp [T3.zero]; omega
/-- The pulse number i. -/
theorem pulses_at (M : Int) : ∀ (xs : List T3) (l : T3) (i : Nat) (hi : i < xs.length), (pulses M l xs)[i]? = some (nearV M ((leftV M l (xs.take i)).add xs[i]), leftV M l (xs.take (i + 1)))
  | [], _, _, hi => by simp at hi
  | x :: xs, l, 0, _ => by simp [pulses, leftV]
  | x :: xs, l, i + 1, hi => by
    rw [pulses, List.getElem?_cons_succ, pulses_at M xs _ i (by simpa using hi)]
    simp [leftV]
/-- Sums of wants, and of what was sent. -/
def sumT : List T3 → T3
  | [] => T3.zero
  | x :: xs => x.add (sumT xs)
theorem sumT_snoc : ∀ (xs : List T3) (x : T3), sumT (xs ++ [x]) = (sumT xs).add x
  | [], x => by apply T3.eq <;> simp [sumT, T3.add, T3.zero]
  | y :: xs, x => by rw [List.cons_append, sumT, sumT_snoc xs, sumT]; apply T3.eq <;> simp [T3.add] <;> omega
end Go.Proofs.YtohldmmfnjfgmaaDoor
