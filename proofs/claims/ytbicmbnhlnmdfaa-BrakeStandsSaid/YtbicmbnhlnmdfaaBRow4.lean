
/-
  A state and a track, opened.
-/
import Derived.Test.YtbicmbnhlnmdfaaBRow2
namespace Go.Proofs.Ytbicmbnhlnmdfaa
open Go.RowKit Go.ChangeShapes Go.WideShapes Go.ChangeAt Go.Joins Go.Deep

theorem cells_more : Try.prog.cellsOf 53 = 4 := by kernel_rfl
theorem cells_track5 : Try.prog.cellsOf 24 = 2 := by kernel_rfl
theorem cells_str5 : Try.prog.cellsOf 9 = 1 := by kernel_rfl
theorem cells_pieces5 : Try.prog.cellsOf 22 = 1 := by kernel_rfl
section
variable {H : Type} {enc : TypeId × Value → H} {W : World} {base : Nat} {held : Bool}
set_option maxRecDepth 100000 in
theorem open_more {r : Reach} {b0 : Nat} {v : Value} {d : DataW H} {p : List MemPlace} (hv : Value.okWide Try.prog W r b0 53 v) (h : DataW.Trod enc Try.prog W base (fun _ => true) held 53 v d p) :
    ∃ (p sq : Int) (s2 : ByteArray) (ps2 : List Bp) (A2 : Option Addr) (c2 : Nat), v = .agg #[.int .i64 p, .int .i64 sq, .string s2, .slice A2 ps2.length c2] ∧ s2.size ≤ maxLen ∧ HdOk ⟨A2, c2⟩ ∧ ps2.length ≤ maxLen ∧ Lies W W.heap.size A2 (ps2.flatMap pc) := by
  obtain ⟨cs, rfl, hsz⟩ := okWide_struct Try.underlying53 hv
  rw [cells_more] at hsz
  obtain ⟨fuel, hf⟩ := h
  obtain ⟨l⟩ := cs
  match l, hsz with
  | [c0, c1, c2, c3], _ =>
    obtain ⟨xs, n, _, _, _, hlen, hfl⟩ := DataW.trod_struct Try.underlying53 hf
    match xs, hlen with
    | [y0, y1], _ =>
      have h0 : DataW.trod enc Try.prog W base (fun _ => true) held n 28 (([c0, c1, c2, c3].drop 0).take (Try.prog.cellsOf 28)) = some y0 := hfl 0 _ rfl
      rw [cells_run] at h0
      have h1 : DataW.trod enc Try.prog W base (fun _ => true) held n 24 (([c0, c1, c2, c3].drop 2).take (Try.prog.cellsOf 24)) = some y1 := hfl 1 _ rfl
      rw [cells_track5] at h1
      obtain ⟨zs, m, _, _, _, hlen2, hf2⟩ := DataW.trod_struct Try.underlying28 h0
      obtain ⟨us, m2, _, _, _, hlen3, hf3⟩ := DataW.trod_struct Try.underlying24 h1
      match zs, hlen2, us, hlen3 with
      | [z0, z1], _, [u0, u1], _ =>
        have k0 : DataW.trod enc Try.prog W base (fun _ => true) held m 3 (([c0, c1].drop 0).take (Try.prog.cellsOf 3)) = some z0 := hf2 0 _ rfl
        rw [cells_int] at k0
        have k1 : DataW.trod enc Try.prog W base (fun _ => true) held m 3 (([c0, c1].drop 1).take (Try.prog.cellsOf 3)) = some z1 := hf2 1 _ rfl
        rw [cells_int] at k1
        have k2 : DataW.trod enc Try.prog W base (fun _ => true) held m2 9 (([c2, c3].drop 0).take (Try.prog.cellsOf 9)) = some u0 := hf3 0 _ rfl
        rw [cells_str5] at k2
        have k3 : DataW.trod enc Try.prog W base (fun _ => true) held m2 22 (([c2, c3].drop 1).take (Try.prog.cellsOf 22)) = some u1 := hf3 1 _ rfl
        rw [cells_pieces5] at k3
        have k2' : DataW.trod enc Try.prog W base (fun _ => true) held m2 9 [c2] = some u0 := k2
        have k3' : DataW.trod enc Try.prog W base (fun _ => true) held m2 22 [c3] = some u1 := k3
        obtain ⟨a, rfl, _⟩ := trod_int1 rfl k0
        obtain ⟨b, rfl, _⟩ := trod_int1 rfl k1
        obtain ⟨s2, hs, _, hsz2⟩ := DataW.trod_string Try.underlying9 k2'
        injection hs with hs _
        subst hs
        obtain ⟨ps2, ⟨A2, e2⟩, rfl, hg, hl, _, hL⟩ := open_made pc Bp.ok 4 (by decide) (fun _ => rfl) Try.underlying22 cells_piece (fun h => trod_piece h) k3'
        exact ⟨a, b, s2, ps2, A2, e2, rfl, hsz2, hg, hl, hL⟩
end
end Go.Proofs.Ytbicmbnhlnmdfaa
