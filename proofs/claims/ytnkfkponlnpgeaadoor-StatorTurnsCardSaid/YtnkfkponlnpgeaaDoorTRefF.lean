/-
  The walks of the reference's functions of forces and margins.
-/
import Derived.Test.YtnkfkponlnpgeaaDoorTMar
namespace Go.Proofs.YtnkfkponlnpgeaaDoor
open Go.RowKit

set_option maxHeartbeats 1000000 in
set_option maxRecDepth 100000 in
theorem product_any (c f : T3) (h : c.Bd 100000000) (g : f.Bd 100000000) (w : World) : Calls Tryd.prog 95 #[(.agg #[.int .i64 c.a, .int .i64 c.b]), (.agg #[.int .i64 f.a, .int .i64 f.b])] w fun e w' => e = .returned (.agg #[.int .i64 (prodV c f).a, .int .i64 (prodV c f).b]) ∧ Below w.heap.size w w' := by
  have HC := Lib.hid (h.more (K := 1000000000) (by omega))
  have HF := Lib.hid (g.more (K := 1000000000) (by omega))
  have HG := Lib.hid ((conj_bd g).more (K := 1000000000) (by omega))
  have F0 := Lib.hid (((Fr.nil w).box 24 #[.int .i64 c.a, .int .i64 c.b]).box 24 #[.int .i64 f.a, .int .i64 f.b])
  have N0 := Lib.hid (Bk.new2 w (.cells #[.int .i64 c.a, .int .i64 c.b] 24) (.cells #[.int .i64 f.a, .int .i64 f.b] 24) 24 #[.int .i64 0, .int .i64 0])
  clear h g
  go_enter Tryd.func95, Tryd.ntmps95
  go_wp2_with fail
  refine wp_abs ?_
  intro w3 h3
  have F3 : Fr w w3 [(w.heap.size + 1, 24, #[.int .i64 f.a, .int .i64 f.b]), (w.heap.size, 24, #[.int .i64 c.a, .int .i64 c.b])] := by subst h3; have := F0.out.new (.cells #[.int .i64 0, .int .i64 0] 24); simpa using this
  have N3 : Hid (Bk w3 (w.heap.size + 1 + 1) 24 #[.int .i64 0, .int .i64 0]) := Lib.hid (by subst h3; exact N0.out)
  have HALL : Hid (∀ W, Fr w W [(w.heap.size + 1, 24, #[.int .i64 f.a, .int .i64 f.b]), (w.heap.size, 24, #[.int .i64 c.a, .int .i64 c.b])] → Fr w W [(w.heap.size + 1, 24, #[.int .i64 f.a, .int .i64 f.b]), (w.heap.size, 24, #[.int .i64 c.a, .int .i64 c.b])] ∧ W.cell? ⟨w.heap.size, 0, none⟩ = some (.int .i64 c.a) ∧ W.cell? ⟨w.heap.size, 1, none⟩ = some (.int .i64 c.b) ∧ W.cell? ⟨w.heap.size + 1, 0, none⟩ = some (.int .i64 f.a) ∧ W.cell? ⟨w.heap.size + 1, 1, none⟩ = some (.int .i64 f.b)) := Lib.hid (fun W hW => ⟨hW, hW.at1.cell 0, hW.at1.cell 1, hW.top.cell 0, hW.top.cell 1⟩)
  clear h3 F0 N0
  go_region_held3 (fun W => Fr w W [(w.heap.size + 1, 24, #[.int .i64 f.a, .int .i64 f.b]), (w.heap.size, 24, #[.int .i64 c.a, .int .i64 c.b])] ∧ W.cell? ⟨w.heap.size, 0, none⟩ = some (.int .i64 c.a) ∧ W.cell? ⟨w.heap.size, 1, none⟩ = some (.int .i64 c.b) ∧ W.cell? ⟨w.heap.size + 1, 0, none⟩ = some (.int .i64 f.a) ∧ W.cell? ⟨w.heap.size + 1, 1, none⟩ = some (.int .i64 f.b))
    ((go_split_ands; refine HALL.out _ ?_; (first | assumption | (repeat (first | assumption | refine Fr.new ?_ _ | refine Fr.drew ?_ | (refine Fr.set ?_ (by first | exact Nat.le_refl _ | omega | (simp; done) | (simp; omega)) (by first | (simp; done) | (simp; omega)) _))); done)))
    ((first
      | (go_at_call 120; go_split_ands; (with_reducible refine (TConj_any f HF.out _).mono ?_); rintro e w1 ⟨rfl, hb1⟩; have F4 := Fr.call (by assumption) hb1; have N4 : Bk w1 (w.heap.size + 1 + 1) 24 #[.int .i64 0, .int .i64 0] := (by first | exact Bk.call N3.out hb1 | exact Bk.call (Bk.drew N3.out) hb1); obtain ⟨n0, n1, n2, n3⟩ := N4.two; have N5 := Lib.hid N4; clear hb1 N4)
      | (go_at_call 119; go_split_ands; (with_reducible refine (TMul_any c f.conj HC.out HG.out _).mono ?_); rintro e w1 ⟨rfl, hb1⟩; have F4 := Fr.call (by assumption) hb1; have N4 : Bk w1 (w.heap.size + 1 + 1) 24 #[.int .i64 0, .int .i64 0] := (by first | exact Bk.call N5.out hb1 | exact Bk.call (Bk.drew N5.out) hb1); obtain ⟨n0, n1, n2, n3⟩ := N4.two; have N6 := Lib.hid N4; clear hb1 N4)
      | fail "arm"))
  all_goals
    go_split_ands
    go_wp2_with fail
    exact bodyPost_ret (v := (.agg #[.int .i64 (c.mul f.conj).a, .int .i64 (c.mul f.conj).b])) (by simp [results, Tryd.results95, go_sem, n0, n1]) rfl ⟨rfl, (by assumption : Fr w _ _).bl⟩

set_option maxHeartbeats 1000000 in
theorem refForceOf_any (c f : T3) (h : c.Bd 100000000) (g : f.Bd 100000000) (w : World) : Calls Tryd.prog 32 #[(.agg #[.int .i64 c.a, .int .i64 c.b]), (.agg #[.int .i64 f.a, .int .i64 f.b])] w fun e w' => e = .returned (.int .i64 (forceV c f)) ∧ Below w.heap.size w w' := by
  have B0 := Lib.hid (box2 w #[.int .i64 c.a, .int .i64 c.b] #[.int .i64 f.a, .int .i64 f.b] 24 24)
  have fb := field_b
  go_enter Tryd.func32, Tryd.ntmps32
  go_wp2_with fail
  refine (product_any c f h g _).mono ?_
  rintro e w1 ⟨rfl, hb1⟩
  have B1 := Lib.hid (Below.step B0.out hb1)
  clear hb1
  go_wp2_with fail
  go_ret
  exact ⟨rfl, B1.out⟩

set_option maxHeartbeats 2000000 in
theorem refMarginOf_any (c f : T3) (hc : c.Bd 100000) (hf : f.Bd 100000) (w : World) : Calls Tryd.prog 33 #[(.agg #[.int .i64 c.a, .int .i64 c.b]), (.agg #[.int .i64 f.a, .int .i64 f.b])] w fun e w' => e = .returned (.int .i64 (marginV c f)) ∧ Below w.heap.size w w' := by
  have B0 := Lib.hid (box2 w #[.int .i64 c.a, .int .i64 c.b] #[.int .i64 f.a, .int .i64 f.b] 24 24)
  obtain ⟨q0, q1, q2, q3⟩ := prod_bd hc hf
  have HC := Lib.hid (hc.more (K := 100000000) (by omega))
  have HF := Lib.hid (hf.more (K := 100000000) (by omega))
  rw [margin_eq]
  have HR := Lib.hid (fun w => product_any c f HC.out HF.out w)
  generalize (prodV c f).a = p at *
  generalize (prodV c f).b = q at *
  clear hc hf
  have hs0 : -(2 * p - q) = q - 2 * p := by omega
  obtain ⟨s, hs⟩ : ∃ s, max (2 * p - q) (-(2 * p - q)) = s := ⟨_, rfl⟩
  have HS : Hid (margP p q = if q ≤ 0 then 0 else if s ≤ q then 2 else if s ≤ 3 * q then 1 else 0) := Lib.hid (by unfold margP; rw [hs])
  have HSZ : Hid (∀ w, Calls Tryd.prog 56 #[.int .i64 (2 * p - q)] w fun e w' => e = .returned (.int .i64 s) ∧ w = w') := Lib.hid (fun w => by rw [← hs]; exact Size_any _ (by omega) (by omega) w)
  clear hs hs0
  by_cases h1 : 0 < q <;> by_cases h2 : s ≤ q <;> by_cases h3 : s ≤ 3 * q
  all_goals first | (exfalso; omega) | skip
  all_goals
    go_enter Tryd.func33, Tryd.ntmps33
    go_wp2_with fail
    refine (HR.out _).mono ?_
    rintro e w1 ⟨rfl, hb1⟩
    have B1 := Lib.hid ((Below.step B0.out hb1).alloc (Below.step B0.out hb1).size (.cells #[.int .i64 p, .int .i64 q] 24))
    clear hb1
    go_wp2_with (go_at_call 56; refine (HSZ.out _).mono ?_; rintro e w' ⟨rfl, rfl⟩)
    go_ret
    exact ⟨ret_i64 (by rw [HS.out]; first | (rw [if_pos (by omega)]; done) | (rw [if_neg (by omega), if_pos (by omega)]; done) | (rw [if_neg (by omega), if_neg (by omega), if_pos (by omega)]; done) | (rw [if_neg (by omega), if_neg (by omega), if_neg (by omega)]; done)), B1.out⟩
end Go.Proofs.YtnkfkponlnpgeaaDoor
