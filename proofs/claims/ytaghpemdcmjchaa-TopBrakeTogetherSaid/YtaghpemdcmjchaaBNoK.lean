
/-
  What is known of CheckSquares and TimeOf ahead of a law.
-/
import Derived.Test.YtaghpemdcmjchaaBNoP
import Derived.Test.YtaghpemdcmjchaaBCp
import Derived.Test.YtaghpemdcmjchaaBErr
namespace Go.Proofs.Ytaghpemdcmjchaa
open Go.RowKit

theorem first_bad (Q : Nat → Bool) : ∀ n, (∀ j, j < n → Q j = false) ∨ ∃ k, k < n ∧ Q k = true ∧ ∀ j, j < k → Q j = false
  | 0 => .inl fun j hj => by omega
  | n + 1 => by
    rcases first_bad Q n with h | ⟨k, h1, h2, h3⟩
    · cases hq : Q n with
      | true => exact .inr ⟨n, by omega, hq, h⟩
      | false =>
        refine .inl fun j hj => ?_
        by_cases e : j = n
        · subst e; exact hq
        · exact h j (by omega)
    · exact .inr ⟨k, by omega, h2, h3⟩
theorem tm_known (s : ByteArray) (hs : s.size ≤ maxLen) (ps : List Bp) (hok : OkT s ps) (l : List Int) (hl : l.length ≤ maxLen) (h2 : sqsE ps l = 0) : ∃ lo hi er : Int,
    (∀ (A' : Option Addr) (c' : Nat) (B' : Option Addr) (d' : Nat) (W : World), Lies W W.heap.size A' (ps.flatMap pc) → Lies W W.heap.size B' (ic l) → Calls Try.prog 16 #[.agg #[.string s, .slice A' ps.length c'], .slice B' l.length d'] W fun e w' => e = .returned (.tuple #[.agg #[.int .i64 lo, .int .i64 hi], .int .i64 er]) ∧ Below W.heap.size W w') ∧ ((er = 0 ∧ lo = tloV ps l ps.length ∧ hi = thiV ps l ps.length ∧ ∀ j, j < ps.length → zeroS l j = false) ∨ (er = 11 ∧ ∃ j, j < ps.length ∧ zeroS l j = true)) := by
  have hl0 : ps.length ≤ 1000 := by have := hok.n12; omega
  rcases first_bad (zeroS l) ps.length with h | ⟨k, k1, k2, k3⟩
  · refine ⟨_, _, 0, fun A' c' B' d' W hA hB => ?_, .inl ⟨rfl, rfl, rfl, h⟩⟩
    obtain ⟨a', rfl⟩ := ps_some hA hok.n0
    exact TimeOf_ok s hs ps a' c' hl0 l B' d' hl hok h2 h W hA hB
  · refine ⟨0, 0, 11, fun A' c' B' d' W hA hB => ?_, .inr ⟨rfl, k, k1, k2⟩⟩
    obtain ⟨a', rfl⟩ := ps_some hA hok.n0
    exact TimeOf_zero s hs ps a' c' hl0 l B' d' hl hok h2 k k1 k3 k2 W hA hB
theorem sqs_len {ps : List Bp} {l : List Int} (h : sqsE ps l = 0) : l.length = ps.length + 1 := Decidable.by_contra fun hn => by unfold sqsE at h; rw [if_pos hn] at h; cases h
theorem sqs_in {ps : List Bp} {l : List Int} (h : sqsE ps l = 0) : ∀ k, 0 ≤ sqAt l k ∧ sqAt l k ≤ 20000000000 := by
  unfold sqsE at h
  rw [if_neg (by have := sqs_len (ps := ps) (l := l) (by unfold sqsE; exact h); simpa using this)] at h
  exact sqAt_in h
/-- The times of the fastest squares and of others. -/
theorem both_times {ps : List Bp} (hx : ∀ p ∈ ps, okP p = true) {l m : List Int} (h1 : sqsE ps l = 0) (h2 : sqsE ps m = 0) (h : ∀ k, k ≤ ps.length → sqAt l k ≤ sqAt m k) {lo hi er lo2 hi2 er2 : Int}
    (hm : (er = 0 ∧ lo = tloV ps m ps.length ∧ hi = thiV ps m ps.length ∧ ∀ j, j < ps.length → zeroS m j = false) ∨ (er = 11 ∧ ∃ j, j < ps.length ∧ zeroS m j = true))
    (hl : (er2 = 0 ∧ lo2 = tloV ps l ps.length ∧ hi2 = thiV ps l ps.length ∧ ∀ j, j < ps.length → zeroS l j = false) ∨ (er2 = 11 ∧ ∃ j, j < ps.length ∧ zeroS l j = true)) : er2 = 11 ∨ (er2 = 0 ∧ er = 0 ∧ lo ≤ lo2 ∧ hi ≤ hi2) := by
  rcases hl with ⟨rfl, rfl, rfl, hz⟩ | ⟨rfl, _⟩
  · obtain ⟨t1, t2, t3⟩ := time_mono hx (sqs_in h1) (sqs_in h2) h ps.length (Nat.le_refl _) hz
    rcases hm with ⟨rfl, rfl, rfl, _⟩ | ⟨rfl, j, hj, hjz⟩
    · exact .inr ⟨rfl, rfl, t2, t3⟩
    · rw [t1 j hj] at hjz; cases hjz
  · exact .inl rfl
end Go.Proofs.Ytaghpemdcmjchaa
