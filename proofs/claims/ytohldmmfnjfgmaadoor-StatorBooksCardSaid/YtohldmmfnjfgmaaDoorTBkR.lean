
/-
  The argument of StatorBooks opened.
-/
import Derived.Test.YtohldmmfnjfgmaaDoorTRow2
import Derived.Test.YtohldmmfnjfgmaaDoorTBkA
namespace Go.Proofs.YtohldmmfnjfgmaaDoor
open Go.ChangeShapes Go.WideShapes Go.ChangeAt Go.RowKit Go.Joins Go.Deep

theorem cells_step : Tryd.prog.cellsOf 75 = 7 := by kernel_rfl
instance : Inhabited Stp := ⟨⟨⟨0, 0, 0⟩, ⟨0, 0, 0⟩, 0⟩⟩
section
variable {H : Type} {enc : TypeId × Value → H} {W : World} {base : Nat} {held : Bool}
set_option maxRecDepth 100000 in
theorem trod_p3 {fuel : Nat} {c0 c1 c2 : Value} {x : DataW H × List MemPlace} (h : DataW.trod enc Tryd.prog W base (fun _ => true) held fuel 73 [c0, c1, c2] = some x) : ∃ p : Ph, c0 = .int .i64 p.x ∧ c1 = .int .i64 p.y ∧ c2 = .int .i64 p.z := by
  obtain ⟨y0, y1, y2, n, _, h0, h1, h2⟩ := trod_array3 Tryd.underlying73 cells_int h
  obtain ⟨a, rfl, _, _⟩ := trod_i h0
  obtain ⟨b, rfl, _, _⟩ := trod_i h1
  obtain ⟨c, rfl, _, _⟩ := trod_i h2
  exact ⟨⟨a, b, c⟩, rfl, rfl, rfl⟩
set_option maxRecDepth 100000 in
theorem trod_step {fuel : Nat} {cs : List Value} {x : DataW H × List MemPlace} (h : DataW.trod enc Tryd.prog W base (fun _ => true) held fuel 75 cs = some x) : ∃ s : Stp, cs = stc s ∧ True := by
  obtain ⟨xs, n, _, hx, hl, hlen, hf⟩ := DataW.trod_struct Tryd.underlying75 h
  rw [cells_step] at hl
  match cs, hl with
  | [c0, c1, c2, c3, c4, c5, c6], _ =>
    match xs, hlen with
    | [y0, y1, y2], _ =>
      have h0 : DataW.trod enc Tryd.prog W base (fun _ => true) held n 73 (([c0, c1, c2, c3, c4, c5, c6].drop 0).take (Tryd.prog.cellsOf 73)) = some y0 := hf 0 _ rfl
      rw [cells_p3] at h0
      have h1 : DataW.trod enc Tryd.prog W base (fun _ => true) held n 73 (([c0, c1, c2, c3, c4, c5, c6].drop 3).take (Tryd.prog.cellsOf 73)) = some y1 := hf 1 _ rfl
      rw [cells_p3] at h1
      have h2 : DataW.trod enc Tryd.prog W base (fun _ => true) held n 3 (([c0, c1, c2, c3, c4, c5, c6].drop 6).take (Tryd.prog.cellsOf 3)) = some y2 := hf 2 _ rfl
      rw [cells_int] at h2
      obtain ⟨p, rfl, rfl, rfl⟩ := trod_p3 h0
      obtain ⟨q, rfl, rfl, rfl⟩ := trod_p3 h1
      obtain ⟨o, rfl, _, _⟩ := trod_i h2
      exact ⟨⟨p, q, o⟩, rfl, trivial⟩
set_option maxRecDepth 100000 in
theorem open_steps {r : Reach} {b0 : Nat} {v : Value} {d : DataW H} {p : List MemPlace} (hv : Value.okWide Tryd.prog W r b0 65 v) (h : DataW.Trod enc Tryd.prog W base (fun _ => true) held 65 v d p) :
    ∃ (l : List Stp) (g : Hd), v = .slice g.A l.length g.c ∧ HdOk g ∧ l.length ≤ maxLen ∧ Lies W W.heap.size g.A (l.flatMap stc) := by
  obtain ⟨a, n, c, rfl⟩ := okWide_slice Tryd.underlying65 hv
  obtain ⟨fuel, hf⟩ := h
  obtain ⟨l, g, e, hg, hl, _, hL⟩ := open_made stc (fun _ => True) 7 (by decide) (fun _ => rfl) Tryd.underlying65 cells_step (fun {fuel cs x} h => trod_step h) hf
  exact ⟨l, g, e, hg, hl, hL⟩
end
end Go.Proofs.YtohldmmfnjfgmaaDoor
