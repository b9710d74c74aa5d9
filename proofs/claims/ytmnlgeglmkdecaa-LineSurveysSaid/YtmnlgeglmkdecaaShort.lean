/-
  The walk of Short, and what is known of the line of the examples.
-/
import Derived.Test.YtmnlgeglmkdecaaFew
import Derived.Test.YtmnlgeglmkdecaaChk
namespace Go.Proofs.Ytmnlgeglmkdecaa
open Go.RowKit

def shortName : ByteArray := ⟨#[115, 104, 111, 114, 116]⟩
def shortL : Ll := ⟨shortName, [⟨0, 0, 0, 0⟩, ⟨0, 100, 0, 0⟩, ⟨200, 100, 0, 0⟩], [⟨10000, 0⟩, ⟨10000, 100⟩], []⟩

theorem short_ck : ckLine shortL = ((0, 0), 0) := by decide +kernel
theorem short_right : Right shortL := right_of (by rw [short_ck])
theorem short_ok : shortL.ok := by
  refine ⟨by decide, ?_, ?_, ?_, by decide, by decide, by decide, ?_⟩
  · intro j hj; simp [shortL] at hj; rcases hj with rfl | rfl | rfl <;> simp [Lj.ok, I64]
  · intro j hj; simp [shortL] at hj; rcases hj with rfl | rfl <;> simp [Lb.ok, I64]
  · intro j hj; simp [shortL] at hj
  · intro j hj; simp [shortL] at hj

theorem Lies.of_bk {w : World} {g : Nat} {t : TypeId} {cs : Array Value} (h : Bk w g t cs) : Lies w w.heap.size (some ⟨g, 0, none⟩) cs.toList := fun j u hu => ⟨_, rfl, h.lt, h.adds j u hu⟩

theorem Bk.new2 (w : World) (o o' : Obj) (t : TypeId) (cs : Array Value) : Bk (((w.alloc o).alloc o').alloc (.cells cs t)) (w.heap.size + 1 + 1) t cs := by
  have := Bk.new ((w.alloc o).alloc o') t cs
  rwa [World.size_alloc, World.size_alloc] at this

set_option maxHeartbeats 1000000 in
theorem Short_any (w : World) : Calls Try.prog 73 #[] w fun e w' => ∃ g : Nat, e = .returned (.agg #[.string shortName, .slice (some ⟨g, 0, none⟩) 3 3, .slice (some ⟨g + 1, 0, none⟩) 2 2, .slice none 0 0]) ∧
    LnAt w' w'.heap.size shortL ⟨⟨some ⟨g, 0, none⟩, 3⟩, ⟨some ⟨g + 1, 0, none⟩, 2⟩, ⟨none, 0⟩, []⟩ ∧ Below w.heap.size w w' := by
  go_enter Try.func73, Try.ntmps73
  go_wp2_with fail
  refine bodyPost_ret (v := .agg #[.string shortName, .slice (some ⟨w.heap.size + 1, 0, none⟩) 3 3, .slice (some ⟨w.heap.size + 1 + 1, 0, none⟩) 2 2, .slice none 0 0]) (by simp [results, Try.results73, go_sem, shortName]) rfl ⟨w.heap.size + 1, rfl, ?_, ?_⟩
  · refine ⟨?_, ?_, rfl, Lies.nil, fun i s h h1 _ => by simp [shortL] at h1⟩
    · exact Lies.of_bk (t := 56) (cs := #[.int .i64 0, .int .i64 0, .int .i64 0, .int .i64 0, .int .i64 0, .int .i64 100, .int .i64 0, .int .i64 0, .int .i64 200, .int .i64 100, .int .i64 0, .int .i64 0]) ((Bk.new1 _ _ _ _).alloc _)
    · exact Lies.of_bk (t := 59) (cs := #[.int .i64 10000, .int .i64 0, .int .i64 10000, .int .i64 100]) (Bk.new2 _ _ _ _ _)
  · exact (((Below.refl w.heap.size w).alloc (Nat.le_refl _) _).alloc (by simp) _).alloc (by simp; omega) _
end Go.Proofs.Ytmnlgeglmkdecaa
