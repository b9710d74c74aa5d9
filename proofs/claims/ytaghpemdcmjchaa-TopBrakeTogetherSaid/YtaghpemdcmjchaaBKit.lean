
/-
  What the laws of chapter 5 call themselves: Short, comparisons of slices.
-/
import Derived.Test.YtaghpemdcmjchaaBAwk
namespace Go.Proofs.Ytaghpemdcmjchaa
open Go.RowKit

def shortB (s : ByteArray) (ps : List Bp) : Bool := decide (s.size ≤ 30) && decide (ps.length ≤ 14)
theorem short_iff {s : ByteArray} {ps : List Bp} : shortB s ps = true ↔ s.size ≤ 30 ∧ ps.length ≤ 14 := by simp [shortB]
theorem Ints_listF (n : Nat) (f : Nat → Int) (hn : n ≤ 1000) (A B : Option Addr) (c d : Nat) (w : World) (hA : Lies w w.heap.size A (ic (listF n f))) (hB : Lies w w.heap.size B (ic (listF n f))) :
    Calls Try.prog 13 #[.slice A n c, .slice B n d] w fun e w' => e = .returned (.bool true) ∧ Below w.heap.size w w' := by
  have := Ints_same (listF n f) A B c d (by rw [listF_len]; unfold maxLen; omega) w hA hB
  rw [listF_len] at this
  exact this
/-- An error alone. -/
theorem rowE_bad {w w' : World} {l : List Int} {er : Int} {e : Ending} (hr : er ≠ 0) (h : RowE w l er e w') : ∃ g : Hd, e = .returned (.tuple #[.slice g.A 0 g.c, .int .i64 er]) ∧ Below w.heap.size w w' := by
  obtain ⟨g, rfl, _, hb⟩ := h
  exact ⟨g, by rw [if_neg hr], hb⟩
theorem rowE_ok {w w' : World} {n : Nat} {f : Nat → Int} {e : Ending} (h : RowE w (listF n f) 0 e w') : ∃ g : Hd, e = .returned (.tuple #[.slice g.A n g.c, .int .i64 0]) ∧ Lies w' w'.heap.size g.A (ic (listF n f)) ∧ Below w.heap.size w w' := by
  obtain ⟨g, rfl, hL, hb⟩ := h
  exact ⟨g, by rw [if_pos rfl, listF_len], hL rfl, hb⟩
end Go.Proofs.Ytaghpemdcmjchaa
