
/-
  The times of the two parts of a joined track, and of the whole.
-/
import Derived.Test.YtaghpemdcmjchaaTgP
import Derived.Test.YtaghpemdcmjchaaTgC
namespace Go.Proofs.Ytaghpemdcmjchaa
open Go.RowKit
theorem lies_some {W : World} {B : Nat} {A : Option Addr} {l : List Int} (h : Lies W B A (ic l)) (hn : 0 < l.length) : ∃ a, A = some a := by
  obtain ⟨a, e, _⟩ := h 0 (.int .i64 (l[0])) (by simp [ic, hn])
  exact ⟨a, e⟩
def TimC (s : ByteArray) (n : Nat) (cs : List Value) (m : Nat) (ds : List Value) (lo hi er : Int) : Prop := ∀ (A' : Option Addr) (c' : Nat) (B' : Option Addr) (d' : Nat) (W : World), Lies W W.heap.size A' cs → Lies W W.heap.size B' ds → Calls Try.prog 16 #[.agg #[.string s, .slice A' n c'], .slice B' m d'] W fun e w' => e = .returned (.tuple #[.agg #[.int .i64 lo, .int .i64 hi], .int .i64 er]) ∧ Below W.heap.size W w'
def TmD (lo1 hi1 er1 lo2 hi2 er2 lo3 hi3 er3 : Int) : Prop := (er1 = 11 ∧ er3 = 11) ∨ (er1 = 0 ∧ er2 = 11 ∧ er3 = 11) ∨ (er1 = 0 ∧ er2 = 0 ∧ er3 = 0 ∧ IntKind.i64.wrap (lo1 + lo2) = lo3 ∧ IntKind.i64.wrap (hi1 + hi2) = hi3)
theorem tm_three (s : ByteArray) (hs : s.size ≤ maxLen) (ps : List Bp) (s2 : ByteArray) (hs2 : s2.size ≤ maxLen) (ps2 : List Bp) (hok1 : OkT s ps) (hok2 : OkT s2 ps2) (hokj : OkT s (ps ++ ps2)) (l : List Int) (h : sqsE (ps ++ ps2) l = 0) :
    ∃ lo1 hi1 er1 lo2 hi2 er2 lo3 hi3 er3 : Int, TimC s ps.length (ps.flatMap pc) (ps.length + 1) (ic (l.take (ps.length + 1))) lo1 hi1 er1 ∧ TimC s2 ps2.length (ps2.flatMap pc) (ps2.length + 1) (ic (l.drop ps.length)) lo2 hi2 er2 ∧ TimC s (ps ++ ps2).length ((ps ++ ps2).flatMap pc) l.length (ic l) lo3 hi3 er3 ∧ TmD lo1 hi1 er1 lo2 hi2 er2 lo3 hi3 er3 := by
  obtain ⟨g1, g2⟩ := sqs_parts h
  have hl := sqs_len h
  have hlj : (ps ++ ps2).length ≤ 12 := hokj.n12
  have hla : (ps ++ ps2).length = ps.length + ps2.length := List.length_append
  have e1 : (l.take (ps.length + 1)).length = ps.length + 1 := by rw [List.length_take]; omega
  have e2 : (l.drop ps.length).length = ps2.length + 1 := by rw [List.length_drop]; omega
  obtain ⟨lo1, hi1, er1, H1, d1⟩ := tm_known s hs ps hok1 (l.take (ps.length + 1)) (by rw [e1]; unfold maxLen; omega) g1
  obtain ⟨lo2, hi2, er2, H2, d2⟩ := tm_known s2 hs2 ps2 hok2 (l.drop ps.length) (by rw [e2]; unfold maxLen; omega) g2
  obtain ⟨lo3, hi3, er3, H3, d3⟩ := tm_known s hs (ps ++ ps2) hokj l (by unfold maxLen; omega) h
  rw [e1] at H1
  rw [e2] at H2
  refine ⟨lo1, hi1, er1, lo2, hi2, er2, lo3, hi3, er3, H1, H2, H3, ?_⟩
  have hit : ∀ j, j < (ps ++ ps2).length → zeroS l j = true → er3 = 11 := fun j hj hz => by
    rcases d3 with ⟨_, _, _, d⟩ | ⟨e, _⟩
    · rw [d j hj] at hz
      cases hz
    · exact e
  rcases d1 with ⟨a1, a2, a3, a4⟩ | ⟨a1, j, a2, a3⟩
  · rcases d2 with ⟨b1, b2, b3, b4⟩ | ⟨b1, j, b2, b3⟩
    · have hall : ∀ j, j < (ps ++ ps2).length → zeroS l j = false := fun j hj => by
        by_cases h : j < ps.length
        · rw [← zero_take (l := l) h]
          exact a4 j h
        · have := b4 (j - ps.length) (by omega)
          rw [zero_drop, show ps.length + (j - ps.length) = j by omega] at this
          exact this
      rcases d3 with ⟨c1, c2, c3, _⟩ | ⟨_, j, c2, c3⟩
      · refine .inr (.inr ⟨a1, b1, c1, ?_, ?_⟩)
        · have hb := (tim_bound hokj.each (sqs_in h) _ hall).1
          have e : lo1 + lo2 = lo3 := by rw [a2, b2, c2, hla, tlo_drop]
          rw [e]
          exact IntWalk.i64_in _ (by rw [c2]; omega)
        · have hb := (tim_bound hokj.each (sqs_in h) _ hall).2
          have e : hi1 + hi2 = hi3 := by rw [a3, b3, c3, hla, thi_drop]
          rw [e]
          exact IntWalk.i64_in _ (by rw [c3]; omega)
      · rw [hall j c2] at c3
        cases c3
    · refine .inr (.inl ⟨a1, b1, hit (ps.length + j) (by omega) ?_⟩)
      rw [← zero_drop]
      exact b3
  · exact .inl ⟨a1, hit j (by omega) (by rw [← zero_take (l := l) (n := ps.length) a2]; exact a3)⟩
end Go.Proofs.Ytaghpemdcmjchaa
