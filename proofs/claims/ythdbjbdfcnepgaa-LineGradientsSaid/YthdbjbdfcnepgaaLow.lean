/-
  Fractions in lowest terms: plain facts. Nothing of the program is imported here.
-/
import Derived.Test.YthdbjbdfcnepgaaPlain
namespace Go.Proofs.Ythdbjbdfcnepgaa

theorem low_parts {n d : Int} (hd : 1 ≤ d) : ∃ g a b : Int, (Int.gcd n d : Int) = g ∧ 1 ≤ g ∧ n = g * a ∧ d = g * b ∧ 1 ≤ b ∧ n.tdiv (Int.gcd n d) = a ∧ d / (Int.gcd n d : Int) = b ∧ Int.gcd a b = 1 := by
  have hg : 0 < Int.gcd n d := Int.gcd_pos_of_ne_zero_right _ (by omega)
  obtain ⟨a, ha⟩ := Int.gcd_dvd_left (a := n) (b := d)
  obtain ⟨b, hb⟩ := Int.gcd_dvd_right (a := n) (b := d)
  have hm : Int.gcd n d = Int.gcd n d * Int.gcd a b := by
    have h := Int.gcd_mul_left (Int.gcd n d : Int) a b
    rw [← ha, ← hb] at h
    simpa using h
  have h1 : Int.gcd a b = 1 := by
    have : Int.gcd n d * Int.gcd a b = Int.gcd n d * 1 := by omega
    exact Nat.eq_of_mul_eq_mul_left hg this
  generalize Int.gcd n d = k at *
  have hk : (k : Int) ≠ 0 := by omega
  have hb1 : 1 ≤ b := by
    apply Classical.byContradiction
    intro h
    have : (k : Int) * b ≤ 0 := Int.mul_nonpos_of_nonneg_of_nonpos (by omega) (by omega)
    omega
  refine ⟨k, a, b, rfl, by omega, ha, hb, hb1, ?_, ?_, h1⟩
  · rw [ha, Int.mul_tdiv_cancel_left _ hk]
  · rw [hb, Int.mul_ediv_cancel_left _ hk]

/-- A whole number over d, in lowest terms. -/
theorem low_whole {a d : Int} (hd : 1 ≤ d) : (a * d).tdiv (Int.gcd (a * d) d) = a ∧ d / (Int.gcd (a * d) d : Int) = 1 := by
  have h : (Int.gcd (a * d) d : Int) = d := by
    have : Int.gcd (a * d) d = d.natAbs := by simp
    omega
  rw [h]
  exact ⟨Int.mul_tdiv_cancel _ (by omega), Int.ediv_self (by omega)⟩
/-- A number times the denominator is at most the numerator, also in lowest terms. -/
theorem low_le {n d x : Int} (hd : 1 ≤ d) (h : x * d ≤ n) : x * (d / (Int.gcd n d : Int)) ≤ n.tdiv (Int.gcd n d) := by
  obtain ⟨g, a, b, h0, h1, hn, hb, _, e1, e2, _⟩ := low_parts (n := n) hd
  rw [e1, e2]
  rw [hn, hb] at h
  have : g * (x * b) ≤ g * a := by rw [← Int.mul_assoc, Int.mul_comm g x, Int.mul_assoc]; exact h
  exact Int.le_of_mul_le_mul_left this (by omega)
theorem low_ge {n d x : Int} (hd : 1 ≤ d) (h : n ≤ x * d) : n.tdiv (Int.gcd n d) ≤ x * (d / (Int.gcd n d : Int)) := by
  obtain ⟨g, a, b, h0, h1, hn, hb, _, e1, e2, _⟩ := low_parts (n := n) hd
  rw [e1, e2]
  rw [hn, hb] at h
  have : g * a ≤ g * (x * b) := by rw [← Int.mul_assoc, Int.mul_comm g x, Int.mul_assoc]; exact h
  exact Int.le_of_mul_le_mul_left this (by omega)
theorem low_num {n d : Int} (hd : 1 ≤ d) : (n.tdiv (Int.gcd n d)).natAbs ≤ n.natAbs := by
  rw [Int.natAbs_tdiv]; exact Nat.div_le_self _ _
theorem low_den {n d : Int} (hd : 1 ≤ d) : 1 ≤ d / (Int.gcd n d : Int) ∧ d / (Int.gcd n d : Int) ≤ d := by
  obtain ⟨g, a, b, h0, h1, hn, hb, hb1, e1, e2, _⟩ := low_parts (n := n) hd
  refine ⟨by rw [e2]; exact hb1, Int.ediv_le_self _ (by omega)⟩
theorem low_gcd {n d : Int} (hd : 1 ≤ d) : Int.gcd (n.tdiv (Int.gcd n d)) (d / (Int.gcd n d : Int)) = 1 := by
  obtain ⟨g, a, b, h0, h1, hn, hb, hb1, e1, e2, h⟩ := low_parts (n := n) hd
  rw [e1, e2]; exact h
/-- Between two numbers, so far behind the first one. -/
theorem mix_between {a b t d : Int} (h0 : 0 ≤ t) (h1 : t ≤ d) : min a b * d ≤ a * (d - t) + b * t ∧ a * (d - t) + b * t ≤ max a b * d := by
  have e : ∀ m : Int, m * d = m * (d - t) + m * t := fun m => by rw [← Int.mul_add]; congr 1; omega
  rw [e (min a b), e (max a b)]
  have p1 := Int.mul_le_mul_of_nonneg_right (show min a b ≤ a by omega) (show 0 ≤ d - t by omega)
  have p2 := Int.mul_le_mul_of_nonneg_right (show min a b ≤ b by omega) h0
  have p3 := Int.mul_le_mul_of_nonneg_right (show a ≤ max a b by omega) (show 0 ≤ d - t by omega)
  have p4 := Int.mul_le_mul_of_nonneg_right (show b ≤ max a b by omega) h0
  omega
end Go.Proofs.Ythdbjbdfcnepgaa
