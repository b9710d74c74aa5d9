
/-
  A state and a stop, opened.
-/
import Derived.Test.YtbicmbnhlnmdfaaBRow
namespace Go.Proofs.Ytbicmbnhlnmdfaa
open Go.RowKit Go.ChangeShapes Go.WideShapes Go.ChangeAt Go.Joins Go.Deep

theorem cells_run : Try.prog.cellsOf 28 = 2 := by kernel_rfl
theorem cells_asked : Try.prog.cellsOf 30 = 3 := by kernel_rfl
section
variable {H : Type} {enc : TypeId × Value → H} {W : World} {base : Nat} {held : Bool}
set_option maxRecDepth 100000 in
theorem open_asked {r : Reach} {b0 : Nat} {v : Value} {d : DataW H} {p : List MemPlace} (hv : Value.okWide Try.prog W r b0 30 v) (h : DataW.Trod enc Try.prog W base (fun _ => true) held 30 v d p) :
    ∃ (p sq stop : Int), v = .agg #[.int .i64 p, .int .i64 sq, .int .i64 stop] ∧ I64 p ∧ I64 sq ∧ I64 stop := by
  obtain ⟨cs, rfl, hsz⟩ := okWide_struct Try.underlying30 hv
  rw [cells_asked] at hsz
  obtain ⟨fuel, hf⟩ := h
  obtain ⟨l⟩ := cs
  match l, hsz with
  | [c0, c1, c2], _ =>
    obtain ⟨xs, n, _, _, _, hlen, hfl⟩ := DataW.trod_struct Try.underlying30 hf
    match xs, hlen with
    | [y0, y1], _ =>
      have h0 : DataW.trod enc Try.prog W base (fun _ => true) held n 28 (([c0, c1, c2].drop 0).take (Try.prog.cellsOf 28)) = some y0 := hfl 0 _ rfl
      rw [cells_run] at h0
      have h1 : DataW.trod enc Try.prog W base (fun _ => true) held n 3 (([c0, c1, c2].drop 2).take (Try.prog.cellsOf 3)) = some y1 := hfl 1 _ rfl
      rw [cells_int] at h1
      obtain ⟨zs, m, _, _, _, hlen2, hf2⟩ := DataW.trod_struct Try.underlying28 h0
      match zs, hlen2 with
      | [z0, z1], _ =>
        have k0 : DataW.trod enc Try.prog W base (fun _ => true) held m 3 (([c0, c1].drop 0).take (Try.prog.cellsOf 3)) = some z0 := hf2 0 _ rfl
        rw [cells_int] at k0
        have k1 : DataW.trod enc Try.prog W base (fun _ => true) held m 3 (([c0, c1].drop 1).take (Try.prog.cellsOf 3)) = some z1 := hf2 1 _ rfl
        rw [cells_int] at k1
        obtain ⟨a, rfl, ha⟩ := trod_int1 rfl k0
        obtain ⟨b, rfl, hb⟩ := trod_int1 rfl k1
        obtain ⟨c, rfl, hc⟩ := trod_int1 rfl h1
        exact ⟨a, b, c, rfl, ha, hb, hc⟩
end
end Go.Proofs.Ytbicmbnhlnmdfaa
