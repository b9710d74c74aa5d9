
/-
  A system, a state, a stop and squares, opened.
-/
import Derived.Test.YtaghpemdcmjchaaBRow6
namespace Go.Proofs.Ytaghpemdcmjchaa
open Go.RowKit Go.ChangeShapes Go.WideShapes Go.ChangeAt Go.Joins Go.Deep

theorem cells_joint7 : Try.prog.cellsOf 31 = 7 := by kernel_rfl
theorem cells_sys7 : Try.prog.cellsOf 26 = 3 := by kernel_rfl
theorem cells_ints7 : Try.prog.cellsOf 29 = 1 := by kernel_rfl
section
variable {H : Type} {enc : TypeId × Value → H} {W : World} {base : Nat} {held : Bool}
theorem slice_caps7 {t e : TypeId} {fuel n c : Nat} {A : Option Addr} {x : DataW H × List MemPlace} (ht : Try.prog.underlying t = some (.slice e)) (h : DataW.trod enc Try.prog W base (fun _ => true) held fuel t [.slice A n c] = some x) : n ≤ c ∧ c ≤ maxLen := by
  rcases open_slice ht h with ⟨h0, _⟩ | ⟨a, len, cap, m, k, D, Pl, hcs, hb, hl, hm, _⟩
  · injection h0 with h0 _
    injection h0 with _ h1 h2
    subst h1 h2
    exact ⟨Nat.le_refl _, Nat.zero_le _⟩
  · injection hcs with hcs _
    injection hcs with _ h1 h2
    subst h1 h2
    exact ⟨hl, hm⟩
set_option maxRecDepth 100000 in
theorem open_joint7 {r : Reach} {b0 : Nat} {v : Value} {d : DataW H} {p : List MemPlace} (hv : Value.okWide Try.prog W r b0 31 v) (h : DataW.Trod enc Try.prog W base (fun _ => true) held 31 v d p) :
    ∃ (b : Bs) (p sq stop : Int) (l : List Int) (R : Option Addr) (cr : Nat), v = .agg #[.int .i64 b.brk, .int .i64 b.drag, .int .i64 b.drv, .int .i64 p, .int .i64 sq, .int .i64 stop, .slice R l.length cr] ∧ HdOk ⟨R, cr⟩ ∧ l.length ≤ cr ∧ cr ≤ maxLen ∧ Lies W W.heap.size R (ic l) := by
  obtain ⟨cs, rfl, hsz⟩ := okWide_struct Try.underlying31 hv
  rw [cells_joint7] at hsz
  obtain ⟨fuel, hf⟩ := h
  obtain ⟨l⟩ := cs
  match l, hsz with
  | [c0, c1, c2, c3, c4, c5, c6], _ =>
    obtain ⟨xs, n, _, _, _, hlen, hfl⟩ := DataW.trod_struct Try.underlying31 hf
    match xs, hlen with
    | [y0, y1, y2, y3], _ =>
      have h0 : DataW.trod enc Try.prog W base (fun _ => true) held n 26 (([c0, c1, c2, c3, c4, c5, c6].drop 0).take (Try.prog.cellsOf 26)) = some y0 := hfl 0 _ rfl
      rw [cells_sys7] at h0
      have h1 : DataW.trod enc Try.prog W base (fun _ => true) held n 28 (([c0, c1, c2, c3, c4, c5, c6].drop 3).take (Try.prog.cellsOf 28)) = some y1 := hfl 1 _ rfl
      rw [cells_run6] at h1
      have h2 : DataW.trod enc Try.prog W base (fun _ => true) held n 3 (([c0, c1, c2, c3, c4, c5, c6].drop 5).take (Try.prog.cellsOf 3)) = some y2 := hfl 2 _ rfl
      rw [cells_int] at h2
      have h3 : DataW.trod enc Try.prog W base (fun _ => true) held n 29 (([c0, c1, c2, c3, c4, c5, c6].drop 6).take (Try.prog.cellsOf 29)) = some y3 := hfl 3 _ rfl
      rw [cells_ints7] at h3
      have h3' : DataW.trod enc Try.prog W base (fun _ => true) held n 29 [c6] = some y3 := h3
      obtain ⟨zs, m, _, _, _, hlen2, hf2⟩ := DataW.trod_struct Try.underlying26 h0
      obtain ⟨us, m2, _, _, _, hlen3, hf3⟩ := DataW.trod_struct Try.underlying28 h1
      match zs, hlen2, us, hlen3 with
      | [z0, z1, z2], _, [u0, u1], _ =>
        have k0 : DataW.trod enc Try.prog W base (fun _ => true) held m 3 (([c0, c1, c2].drop 0).take (Try.prog.cellsOf 3)) = some z0 := hf2 0 _ rfl
        rw [cells_int] at k0
        have k1 : DataW.trod enc Try.prog W base (fun _ => true) held m 3 (([c0, c1, c2].drop 1).take (Try.prog.cellsOf 3)) = some z1 := hf2 1 _ rfl
        rw [cells_int] at k1
        have k2 : DataW.trod enc Try.prog W base (fun _ => true) held m 3 (([c0, c1, c2].drop 2).take (Try.prog.cellsOf 3)) = some z2 := hf2 2 _ rfl
        rw [cells_int] at k2
        have k3 : DataW.trod enc Try.prog W base (fun _ => true) held m2 3 (([c3, c4].drop 0).take (Try.prog.cellsOf 3)) = some u0 := hf3 0 _ rfl
        rw [cells_int] at k3
        have k4 : DataW.trod enc Try.prog W base (fun _ => true) held m2 3 (([c3, c4].drop 1).take (Try.prog.cellsOf 3)) = some u1 := hf3 1 _ rfl
        rw [cells_int] at k4
        obtain ⟨a, rfl, _⟩ := trod_int1 rfl k0
        obtain ⟨b, rfl, _⟩ := trod_int1 rfl k1
        obtain ⟨c, rfl, _⟩ := trod_int1 rfl k2
        obtain ⟨p, rfl, _⟩ := trod_int1 rfl k3
        obtain ⟨q, rfl, _⟩ := trod_int1 rfl k4
        obtain ⟨st, rfl, _⟩ := trod_int1 rfl h2
        obtain ⟨rl, ⟨R, cr⟩, rfl, hg, hl, _, hL⟩ := open_made (fun x : Int => [Value.int .i64 x]) (fun _ => True) 1 (by decide) (fun _ => rfl) Try.underlying29 cells_int (fun {fuel cs x} h => by
          obtain ⟨k, hc, _, _⟩ := DataW.trod_int Try.underlying3 h
          exact ⟨k, hc, trivial⟩) h3'
        obtain ⟨e1, e2⟩ := slice_caps7 Try.underlying29 h3'
        exact ⟨⟨a, b, c⟩, p, q, st, rl, R, cr, rfl, hg, e1, e2, by rw [flat_ic6] at hL; exact hL⟩
end
end Go.Proofs.Ytaghpemdcmjchaa
