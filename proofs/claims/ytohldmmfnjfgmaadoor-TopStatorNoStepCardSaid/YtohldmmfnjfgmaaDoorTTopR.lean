
/-
  The arguments of TopStatorNoStep opened.
-/
import Derived.Test.YtohldmmfnjfgmaaDoorTRow2
namespace Go.Proofs.YtohldmmfnjfgmaaDoor
open Go.ChangeShapes Go.WideShapes Go.ChangeAt Go.RowKit Go.Joins Go.Deep

theorem cells_change : Tryd.prog.cellsOf 84 = 5 := by kernel_rfl
theorem cells_p2 : Tryd.prog.cellsOf 85 = 2 := by kernel_rfl
section
variable {H : Type} {enc : TypeId × Value → H} {W : World} {base : Nat} {held : Bool}
set_option maxRecDepth 100000 in
theorem open_change {r : Reach} {b0 : Nat} {v : Value} {d : DataW H} {p : List MemPlace} (hv : Value.okWide Tryd.prog W r b0 84 v) (h : DataW.Trod enc Tryd.prog W base (fun _ => true) held 84 v d p) :
    ∃ (f t : T3) (n : Int), v = .agg #[.int .i64 f.a, .int .i64 f.b, .int .i64 t.a, .int .i64 t.b, .int .i64 n] := by
  obtain ⟨cs, rfl, hsz⟩ := okWide_struct Tryd.underlying84 hv
  rw [cells_change] at hsz
  obtain ⟨fuel, hf⟩ := h
  obtain ⟨l⟩ := cs
  match l, hsz with
  | [c0, c1, c2, c3, c4], _ =>
    obtain ⟨xs, n, _, _, _, hlen, hfl⟩ := DataW.trod_struct Tryd.underlying84 hf
    match xs, hlen with
    | [y0, y1, y2], _ =>
      have h0 : DataW.trod enc Tryd.prog W base (fun _ => true) held n 24 (([c0, c1, c2, c3, c4].drop 0).take (Tryd.prog.cellsOf 24)) = some y0 := hfl 0 _ rfl
      rw [cells_third] at h0
      have h1 : DataW.trod enc Tryd.prog W base (fun _ => true) held n 24 (([c0, c1, c2, c3, c4].drop 2).take (Tryd.prog.cellsOf 24)) = some y1 := hfl 1 _ rfl
      rw [cells_third] at h1
      have h2 : DataW.trod enc Tryd.prog W base (fun _ => true) held n 3 (([c0, c1, c2, c3, c4].drop 4).take (Tryd.prog.cellsOf 3)) = some y2 := hfl 2 _ rfl
      rw [cells_int] at h2
      obtain ⟨f, hc, _, _, _⟩ := trod_third h0
      obtain ⟨t, hc2, _, _, _⟩ := trod_third h1
      obtain ⟨m, rfl, _, _⟩ := trod_i h2
      simp only [List.drop_succ_cons, List.drop_zero, List.take_succ_cons, List.take_zero, tc, List.cons.injEq, and_true] at hc hc2
      obtain ⟨rfl, rfl⟩ := hc
      obtain ⟨rfl, rfl⟩ := hc2
      exact ⟨f, t, m, rfl⟩
set_option maxRecDepth 100000 in
theorem open_p2 {r : Reach} {b0 : Nat} {v : Value} {d : DataW H} {p : List MemPlace} (hv : Value.okWide Tryd.prog W r b0 85 v) (h : DataW.Trod enc Tryd.prog W base (fun _ => true) held 85 v d p) :
    ∃ x y : Int, v = .agg #[.int .i64 x, .int .i64 y] := by
  have hs : ∃ cs, v = .agg cs ∧ cs.size = 2 := by
    simp only [Value.okWide, Tryd.underlying85] at hv
    obtain ⟨cs, h1, h2, _⟩ := hv
    exact ⟨cs, h1, by rw [h2, cells_p2]⟩
  obtain ⟨cs, rfl, hsz⟩ := hs
  obtain ⟨fuel, hf⟩ := h
  obtain ⟨l⟩ := cs
  match l, hsz with
  | [c0, c1], _ =>
    obtain ⟨xs, m, _, _, hlen, hn, hel⟩ := DataW.trod_array Tryd.underlying85 hf
    obtain ⟨y0, hy0⟩ : ∃ y, xs[0]? = some y := ⟨_, List.getElem?_eq_getElem (by omega)⟩
    obtain ⟨y1, hy1⟩ : ∃ y, xs[1]? = some y := ⟨_, List.getElem?_eq_getElem (by omega)⟩
    have h0 := hel 0 (by omega)
    have h1 := hel 1 (by omega)
    rw [hy0, cells_int] at h0
    rw [hy1, cells_int] at h1
    have h0' : DataW.trod enc Tryd.prog W base (fun _ => true) held m 3 [c0] = some y0 := h0
    have h1' : DataW.trod enc Tryd.prog W base (fun _ => true) held m 3 [c1] = some y1 := h1
    obtain ⟨a, rfl, _, _⟩ := trod_i h0'
    obtain ⟨b, rfl, _, _⟩ := trod_i h1'
    exact ⟨a, b, rfl⟩
end
end Go.Proofs.YtohldmmfnjfgmaaDoor
