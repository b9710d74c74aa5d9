
/-
  Two numbers in an array, opened.
-/
import Derived.Test.YtbicmbnhlnmdfaaBRow
namespace Go.Proofs.Ytbicmbnhlnmdfaa
open Go.RowKit Go.ChangeShapes Go.WideShapes Go.ChangeAt Go.Joins Go.Deep

theorem cells_p2 : Try.prog.cellsOf 59 = 2 := by kernel_rfl
section
variable {H : Type} {enc : TypeId × Value → H} {W : World} {base : Nat} {held : Bool}
set_option maxRecDepth 100000 in
theorem open_p2 {r : Reach} {b0 : Nat} {v : Value} {d : DataW H} {p : List MemPlace} (hv : Value.okWide Try.prog W r b0 59 v) (h : DataW.Trod enc Try.prog W base (fun _ => true) held 59 v d p) :
    ∃ x y : Int, v = .agg #[.int .i64 x, .int .i64 y] := by
  have hs : ∃ cs, v = .agg cs ∧ cs.size = 2 := by
    simp only [Value.okWide, Try.underlying59] at hv
    obtain ⟨cs, h1, h2, _⟩ := hv
    exact ⟨cs, h1, by rw [h2, cells_p2]⟩
  obtain ⟨cs, rfl, hsz⟩ := hs
  obtain ⟨fuel, hf⟩ := h
  obtain ⟨l⟩ := cs
  match l, hsz with
  | [c0, c1], _ =>
    obtain ⟨xs, m, _, _, hlen, hn, hel⟩ := DataW.trod_array Try.underlying59 hf
    obtain ⟨y0, hy0⟩ : ∃ y, xs[0]? = some y := ⟨_, List.getElem?_eq_getElem (by omega)⟩
    obtain ⟨y1, hy1⟩ : ∃ y, xs[1]? = some y := ⟨_, List.getElem?_eq_getElem (by omega)⟩
    have h0 := hel 0 (by omega)
    have h1 := hel 1 (by omega)
    rw [hy0, cells_int] at h0
    rw [hy1, cells_int] at h1
    have h0' : DataW.trod enc Try.prog W base (fun _ => true) held m 3 [c0] = some y0 := h0
    have h1' : DataW.trod enc Try.prog W base (fun _ => true) held m 3 [c1] = some y1 := h1
    obtain ⟨a, rfl, _⟩ := trod_int1 rfl h0'
    obtain ⟨b, rfl, _⟩ := trod_int1 rfl h1'
    exact ⟨a, b, rfl⟩
end
end Go.Proofs.Ytbicmbnhlnmdfaa
