
/-
  Two ends, squares and a number, opened.
-/
import Derived.Test.YtbicmbnhlnmdfaaBRow3
namespace Go.Proofs.Ytbicmbnhlnmdfaa
open Go.RowKit Go.ChangeShapes Go.WideShapes Go.ChangeAt Go.Joins Go.Deep

theorem cells_race : Try.prog.cellsOf 66 = 4 := by kernel_rfl
theorem flat_ic5 : ∀ l : List Int, l.flatMap (fun x : Int => [Value.int .i64 x]) = ic l
  | [] => rfl
  | x :: l => by rw [List.flatMap_cons, flat_ic5 l]; rfl
theorem cells_ints5 : Try.prog.cellsOf 36 = 1 := by kernel_rfl
section
variable {H : Type} {enc : TypeId × Value → H} {W : World} {base : Nat} {held : Bool}
set_option maxRecDepth 100000 in
theorem trod_p2 {fuel : Nat} {c0 c1 : Value} {x : DataW H × List MemPlace} (hf : DataW.trod enc Try.prog W base (fun _ => true) held fuel 59 [c0, c1] = some x) : ∃ a b : Int, c0 = .int .i64 a ∧ c1 = .int .i64 b := by
  obtain ⟨xs, m, _, _, hlen, hn, hel⟩ := DataW.trod_array Try.underlying59 hf
  obtain ⟨y0, hy0⟩ : ∃ y, xs[0]? = some y := ⟨_, List.getElem?_eq_getElem (by omega)⟩
  obtain ⟨y1, hy1⟩ : ∃ y, xs[1]? = some y := ⟨_, List.getElem?_eq_getElem (by omega)⟩
  have h0 := hel 0 (by omega)
  have h1 := hel 1 (by omega)
  rw [hy0, cells_int] at h0
  rw [hy1, cells_int] at h1
  have h0' : DataW.trod enc Try.prog W base (fun _ => true) held m 3 [c0] = some y0 := h0
  have h1' : DataW.trod enc Try.prog W base (fun _ => true) held m 3 [c1] = some y1 := h1
  obtain ⟨a, rfl, _⟩ := trod_int1 rfl h0'
  obtain ⟨b, rfl, _⟩ := trod_int1 rfl h1'
  exact ⟨a, b, rfl, rfl⟩
set_option maxRecDepth 100000 in
theorem open_race {r : Reach} {b0 : Nat} {v : Value} {d : DataW H} {p : List MemPlace} (hv : Value.okWide Try.prog W r b0 66 v) (h : DataW.Trod enc Try.prog W base (fun _ => true) held 66 v d p) :
    ∃ (e0 e1 mr : Int) (rl : List Int) (R : Option Addr) (cr : Nat), v = .agg #[.int .i64 e0, .int .i64 e1, .slice R rl.length cr, .int .i64 mr] ∧ HdOk ⟨R, cr⟩ ∧ rl.length ≤ maxLen ∧ I64 mr ∧ Lies W W.heap.size R (ic rl) := by
  obtain ⟨cs, rfl, hsz⟩ := okWide_struct Try.underlying66 hv
  rw [cells_race] at hsz
  obtain ⟨fuel, hf⟩ := h
  obtain ⟨l⟩ := cs
  match l, hsz with
  | [c0, c1, c2, c3], _ =>
    obtain ⟨xs, n, _, _, _, hlen, hfl⟩ := DataW.trod_struct Try.underlying66 hf
    match xs, hlen with
    | [y0, y1, y2], _ =>
      have h0 : DataW.trod enc Try.prog W base (fun _ => true) held n 59 (([c0, c1, c2, c3].drop 0).take (Try.prog.cellsOf 59)) = some y0 := hfl 0 _ rfl
      rw [cells_p2] at h0
      have h1 : DataW.trod enc Try.prog W base (fun _ => true) held n 36 (([c0, c1, c2, c3].drop 2).take (Try.prog.cellsOf 36)) = some y1 := hfl 1 _ rfl
      rw [cells_ints5] at h1
      have h2 : DataW.trod enc Try.prog W base (fun _ => true) held n 3 (([c0, c1, c2, c3].drop 3).take (Try.prog.cellsOf 3)) = some y2 := hfl 2 _ rfl
      rw [cells_int] at h2
      have h0' : DataW.trod enc Try.prog W base (fun _ => true) held n 59 [c0, c1] = some y0 := h0
      have h1' : DataW.trod enc Try.prog W base (fun _ => true) held n 36 [c2] = some y1 := h1
      obtain ⟨a, b, rfl, rfl⟩ := trod_p2 h0'
      obtain ⟨m, rfl, hm⟩ := trod_int1 rfl h2
      obtain ⟨rl, ⟨R, cr⟩, rfl, hg, hl, _, hL⟩ := open_made (fun x : Int => [Value.int .i64 x]) (fun _ => True) 1 (by decide) (fun _ => rfl) Try.underlying36 cells_int (fun {fuel cs x} h => by
        obtain ⟨k, hc, _, _⟩ := DataW.trod_int Try.underlying3 h
        exact ⟨k, hc, trivial⟩) h1'
      exact ⟨a, b, m, rl, R, cr, rfl, hg, hl, hm, by rw [flat_ic5] at hL; exact hL⟩
end
end Go.Proofs.Ytbicmbnhlnmdfaa
