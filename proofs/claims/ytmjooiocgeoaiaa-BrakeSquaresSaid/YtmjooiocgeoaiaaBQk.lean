
/-
  What CheckSquares and TimeOf come to, beside the reference.
-/
import Derived.Test.YtmjooiocgeoaiaaBRs
import Derived.Test.YtmjooiocgeoaiaaBNoK
namespace Go.Proofs.Ytmjooiocgeoaiaa
open Go.RowKit
theorem ck_law (s : ByteArray) (hs : s.size ≤ maxLen) (ps : List Bp) (hl0 : ps.length ≤ 1000) (b : Bs) (l : List Int) (hl : l.length ≤ maxLen) : ∃ kk ff : Int, (∀ (A' : Option Addr) (c' : Nat) (B' : Option Addr) (d' : Nat) (W : World), Lies W W.heap.size A' (ps.flatMap pc) → Lies W W.heap.size B' (ic l) → Calls Try.prog 18 #[.agg #[.string s, .slice A' ps.length c'], .agg #[.int .i64 b.brk, .int .i64 b.drag, .int .i64 b.drv], .slice B' l.length d'] W fun e w' => e = .returned (.tuple #[.int .i64 kk, .int .i64 ff]) ∧ Below W.heap.size W w') ∧
    ((bothE s ps b ≠ 0 ∧ kk = 0 ∧ ff = bothE s ps b) ∨ (bothE s ps b = 0 ∧ sqsE ps l ≠ 0 ∧ kk = 0 ∧ ff = sqsE ps l) ∨ (bothE s ps b = 0 ∧ sqsE ps l = 0 ∧ (∀ (A' : Option Addr) (c' : Nat) (B' : Option Addr) (d' : Nat) (W : World), Lies W W.heap.size A' (ps.flatMap pc) → Lies W W.heap.size B' (ic l) → Calls Try.prog 23 #[.agg #[.string s, .slice A' ps.length c'], .agg #[.int .i64 b.brk, .int .i64 b.drag, .int .i64 b.drv], .slice B' l.length d'] W fun e w' => e = .returned (.tuple #[.int .i64 kk, .int .i64 ff]) ∧ Below W.heap.size W w'))) := by
  by_cases h0 : bothE s ps b = 0
  · obtain ⟨hok, hb⟩ := bothE_zero h0
    have hsb : sE b = 0 := by unfold bothE at h0; rw [if_neg (by rw [trE_ok hok]; simp)] at h0; exact h0
    by_cases h2 : sqsE ps l = 0
    · have hln := sqs_len h2
      have hq := sqs_in h2
      rcases first_bad (badS ps b l) (ps.length + 1) with h | ⟨k, k1, k2, k3⟩
      · refine ⟨0, 0, fun A' c' B' d' W hA hB => ?_, .inr (.inr ⟨h0, h2, fun A' c' B' d' W hA hB => ?_⟩)⟩
        · obtain ⟨a', rfl⟩ := ps_some hA hok.n0
          exact CheckSquares_ok s hs ps a' c' hl0 b l B' d' hl hok hb hsb h2 (fun j hj => h j (by omega)) W hA hB
        · obtain ⟨a', rfl⟩ := ps_some hA hok.n0
          exact refCheckSquares_ok s ps a' c' hok b hb l B' d' hln hq (fun j hj => h j (by omega)) W hA hB
      · refine ⟨k, 24, fun A' c' B' d' W hA hB => ?_, .inr (.inr ⟨h0, h2, fun A' c' B' d' W hA hB => ?_⟩)⟩
        · obtain ⟨a', rfl⟩ := ps_some hA hok.n0
          exact CheckSquares_hit s hs ps a' c' hl0 b l B' d' hl hok hb hsb h2 k (by omega) k3 k2 W hA hB
        · obtain ⟨a', rfl⟩ := ps_some hA hok.n0
          exact refCheckSquares_hit s ps a' c' hok b hb l B' d' hln hq k (by omega) k3 k2 W hA hB
    · refine ⟨0, sqsE ps l, fun A' c' B' d' W hA hB => ?_, .inr (.inl ⟨h0, h2, rfl, rfl⟩)⟩
      exact CheckSquares_bad s hs ps A' c' hl0 b l B' d' hl _ (by rw [bothE_nz, if_pos h0, nz_one]) h2 W hA hB
  · refine ⟨0, bothE s ps b, fun A' c' B' d' W hA hB => ?_, .inl ⟨h0, rfl, rfl⟩⟩
    exact CheckSquares_bad s hs ps A' c' hl0 b l B' d' hl _ (by rw [bothE_nz, if_neg h0]) h0 W hA hB
theorem tm_law (s : ByteArray) (hs : s.size ≤ maxLen) (ps : List Bp) (hl0 : ps.length ≤ 1000) (l : List Int) (hl : l.length ≤ maxLen) : ∃ lo hi er : Int, (∀ (A' : Option Addr) (c' : Nat) (B' : Option Addr) (d' : Nat) (W : World), Lies W W.heap.size A' (ps.flatMap pc) → Lies W W.heap.size B' (ic l) → Calls Try.prog 20 #[.agg #[.string s, .slice A' ps.length c'], .slice B' l.length d'] W fun e w' => e = .returned (.tuple #[.agg #[.int .i64 lo, .int .i64 hi], .int .i64 er]) ∧ Below W.heap.size W w') ∧
    (((trE s ps).2 ≠ 0 ∧ lo = 0 ∧ hi = 0 ∧ er = (trE s ps).2) ∨ ((trE s ps).2 = 0 ∧ sqsE ps l ≠ 0 ∧ lo = 0 ∧ hi = 0 ∧ er = sqsE ps l) ∨ ((trE s ps).2 = 0 ∧ sqsE ps l = 0 ∧ (∀ (A' : Option Addr) (c' : Nat) (B' : Option Addr) (d' : Nat) (W : World), Lies W W.heap.size A' (ps.flatMap pc) → Lies W W.heap.size B' (ic l) → Calls Try.prog 24 #[.agg #[.string s, .slice A' ps.length c'], .slice B' l.length d'] W fun e w' => e = .returned (.tuple #[.agg #[.int .i64 lo, .int .i64 hi], .int .i64 er]) ∧ Below W.heap.size W w'))) := by
  by_cases h0 : (trE s ps).2 = 0
  · have hok : OkT s ps := by
      rcases tr_cases s ps with ⟨_, h⟩ | h
      · exact h
      · exact absurd h0 h
    by_cases h2 : sqsE ps l = 0
    · have hln := sqs_len h2
      have hq := sqs_in h2
      rcases first_bad (zeroS l) ps.length with h | ⟨k, k1, k2, k3⟩
      · refine ⟨tloV ps l ps.length, thiV ps l ps.length, 0, fun A' c' B' d' W hA hB => ?_, .inr (.inr ⟨h0, h2, fun A' c' B' d' W hA hB => ?_⟩)⟩
        · obtain ⟨a', rfl⟩ := ps_some hA hok.n0
          exact TimeOf_ok s hs ps a' c' hl0 l B' d' hl hok h2 h W hA hB
        · obtain ⟨a', rfl⟩ := ps_some hA hok.n0
          exact refTimeOf_ok s ps a' c' hok l B' d' hln hq h W hA hB
      · refine ⟨0, 0, 11, fun A' c' B' d' W hA hB => ?_, .inr (.inr ⟨h0, h2, fun A' c' B' d' W hA hB => ?_⟩)⟩
        · obtain ⟨a', rfl⟩ := ps_some hA hok.n0
          exact TimeOf_zero s hs ps a' c' hl0 l B' d' hl hok h2 k k1 k3 k2 W hA hB
        · obtain ⟨a', rfl⟩ := ps_some hA hok.n0
          exact refTimeOf_zero s ps a' c' hok l B' d' hln hq k k1 k3 k2 W hA hB
    · refine ⟨0, 0, sqsE ps l, fun A' c' B' d' W hA hB => ?_, .inr (.inl ⟨h0, h2, rfl, rfl, rfl⟩)⟩
      exact TimeOf_bad s hs ps A' c' hl0 l B' d' hl _ (by simp only [nz]; rw [h0]; simp; exact fun h => h.symm) h2 W hA hB
  · refine ⟨0, 0, (trE s ps).2, fun A' c' B' d' W hA hB => ?_, .inl ⟨h0, rfl, rfl, rfl⟩⟩
    exact TimeOf_bad s hs ps A' c' hl0 l B' d' hl _ (by simp only [nz]; rw [if_neg h0]) h0 W hA hB
end Go.Proofs.Ytmjooiocgeoaiaa
