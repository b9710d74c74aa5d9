
/-
  A slice of numbers, and a state, opened.
-/
import Derived.Test.YtaghpemdcmjchaaBRow
namespace Go.Proofs.Ytaghpemdcmjchaa
open Go.RowKit Go.ChangeShapes Go.WideShapes Go.ChangeAt Go.Joins Go.Deep

theorem flat_ic6 : ∀ l : List Int, l.flatMap (fun x : Int => [Value.int .i64 x]) = ic l
  | [] => rfl
  | x :: l => by rw [List.flatMap_cons, flat_ic6 l]; rfl
theorem cells_run6 : Try.prog.cellsOf 28 = 2 := by kernel_rfl
section
variable {H : Type} {enc : TypeId × Value → H} {W : World} {base : Nat} {held : Bool}
set_option maxRecDepth 100000 in
theorem open_ints6 {r : Reach} {b0 : Nat} {v : Value} {d : DataW H} {p : List MemPlace} (hv : Value.okWide Try.prog W r b0 29 v) (h : DataW.Trod enc Try.prog W base (fun _ => true) held 29 v d p) :
    ∃ (l : List Int) (B : Option Addr) (d : Nat), v = .slice B l.length d ∧ HdOk ⟨B, d⟩ ∧ l.length ≤ maxLen ∧ Lies W W.heap.size B (ic l) := by
  obtain ⟨a, n, c, rfl⟩ := okWide_slice Try.underlying29 hv
  obtain ⟨fuel, hf⟩ := h
  obtain ⟨l, ⟨B, d⟩, e, hg, hl, _, hL⟩ := open_made (fun x : Int => [Value.int .i64 x]) (fun _ => True) 1 (by decide) (fun _ => rfl) Try.underlying29 cells_int (fun {fuel cs x} h => by
    obtain ⟨k, hc, _, _⟩ := DataW.trod_int Try.underlying3 h
    exact ⟨k, hc, trivial⟩) hf
  exact ⟨l, B, d, e, hg, hl, by rw [flat_ic6] at hL; exact hL⟩
set_option maxRecDepth 100000 in
theorem open_run6 {r : Reach} {b0 : Nat} {v : Value} {d : DataW H} {p : List MemPlace} (hv : Value.okWide Try.prog W r b0 28 v) (h : DataW.Trod enc Try.prog W base (fun _ => true) held 28 v d p) :
    ∃ (p sq : Int), v = .agg #[.int .i64 p, .int .i64 sq] ∧ I64 p ∧ I64 sq := by
  obtain ⟨v0, v1, y0, y1, n, rfl, _, _, h0, h1⟩ := open_agg2 Try.underlying28 (by kernel_rfl) (by kernel_rfl) hv h
  obtain ⟨a, rfl, ha⟩ := trod_int1 rfl h0
  obtain ⟨b, rfl, hb⟩ := trod_int1 rfl h1
  exact ⟨a, b, rfl, ha, hb⟩
end
end Go.Proofs.Ytaghpemdcmjchaa
