
/-
  The walks of the reference's functions of forces and margins.
-/
import Derived.Test.YtemjefhfplaibaaDoorTMar
namespace Go.Proofs.YtemjefhfplaibaaDoor
open Go.RowKit

set_option maxHeartbeats 1000000 in
set_option maxRecDepth 100000 in
theorem product_any (c f : T3) (h : c.Bd 100000000) (g : f.Bd 100000000) (w : World) : Calls Tryd.prog 103 #[(.agg #[.int .i64 c.a, .int .i64 c.b]), (.agg #[.int .i64 f.a, .int .i64 f.b])] w fun e w' => e = .returned (.agg #[.int .i64 (prodV c f).a, .int .i64 (prodV c f).b]) ∧ Below w.heap.size w w' := by
  have HC := Lib.hid (h.more (K := 1000000000) (by omega))
  have HF := Lib.hid (g.more (K := 1000000000) (by omega))
  have HG := Lib.hid ((conj_bd g).more (K := 1000000000) (by omega))
  have F0 := Lib.hid (((Fr.nil w).box 24 #[.int .i64 c.a, .int .i64 c.b]).box 24 #[.int .i64 f.a, .int .i64 f.b])
  have N0 := Lib.hid (Bk.new2 w (.cells #[.int .i64 c.a, .int .i64 c.b] 24) (.cells #[.int .i64 f.a, .int .i64 f.b] 24) 24 #[.int .i64 0, .int .i64 0])
  clear h g
  go_enter Tryd.func103, Tryd.ntmps103
  go_wp2_with fail
  refine wp_abs ?_
  intro w3 h3
  have F3 : Fr w w3 [(w.heap.size + 1, 24, #[.int .i64 f.a, .int .i64 f.b]), (w.heap.size, 24, #[.int .i64 c.a, .int .i64 c.b])] := by subst h3; have := F0.out.new (.cells #[.int .i64 0, .int .i64 0] 24); simpa using this
  have N3 : Hid (Bk w3 (w.heap.size + 1 + 1) 24 #[.int .i64 0, .int .i64 0]) := Lib.hid (by subst h3; exact N0.out)
  have HALL : Hid (∀ W, Fr w W [(w.heap.size + 1, 24, #[.int .i64 f.a, .int .i64 f.b]), (w.heap.size, 24, #[.int .i64 c.a, .int .i64 c.b])] → Fr w W [(w.heap.size + 1, 24, #[.int .i64 f.a, .int .i64 f.b]), (w.heap.size, 24, #[.int .i64 c.a, .int .i64 c.b])] ∧ W.cell? ⟨w.heap.size, 0, none⟩ = some (.int .i64 c.a) ∧ W.cell? ⟨w.heap.size, 1, none⟩ = some (.int .i64 c.b) ∧ W.cell? ⟨w.heap.size + 1, 0, none⟩ = some (.int .i64 f.a) ∧ W.cell? ⟨w.heap.size + 1, 1, none⟩ = some (.int .i64 f.b)) := Lib.hid (fun W hW => ⟨hW, hW.at1.cell 0, hW.at1.cell 1, hW.top.cell 0, hW.top.cell 1⟩)
  clear h3 F0 N0
  go_region_held3 (fun W => Fr w W [(w.heap.size + 1, 24, #[.int .i64 f.a, .int .i64 f.b]), (w.heap.size, 24, #[.int .i64 c.a, .int .i64 c.b])] ∧ W.cell? ⟨w.heap.size, 0, none⟩ = some (.int .i64 c.a) ∧ W.cell? ⟨w.heap.size, 1, none⟩ = some (.int .i64 c.b) ∧ W.cell? ⟨w.heap.size + 1, 0, none⟩ = some (.int .i64 f.a) ∧ W.cell? ⟨w.heap.size + 1, 1, none⟩ = some (.int .i64 f.b))
    ((go_split_ands; refine HALL.out _ ?_; (first | assumption | (repeat (first | assumption | refine Fr.new ?_ _ | refine Fr.drew ?_ | (refine Fr.set ?_ (by first | exact Nat.le_refl _ | omega | (simp; done) | (simp; omega)) (by first | (simp; done) | (simp; omega)) _))); done)))
    ((first
      | (go_at_call 107; go_split_ands; (with_reducible refine (TConj_any f HF.out _).mono ?_); rintro e w1 ⟨rfl, hb1⟩; have F4 := Fr.call (by assumption) hb1; have N4 : Bk w1 (w.heap.size + 1 + 1) 24 #[.int .i64 0, .int .i64 0] := (by first | exact Bk.call N3.out hb1 | exact Bk.call (Bk.drew N3.out) hb1); obtain ⟨n0, n1, n2, n3⟩ := N4.two; have N5 := Lib.hid N4; clear hb1 N4)
      | (go_at_call 106; go_split_ands; (with_reducible refine (TMul_any c f.conj HC.out HG.out _).mono ?_); rintro e w1 ⟨rfl, hb1⟩; have F4 := Fr.call (by assumption) hb1; have N4 : Bk w1 (w.heap.size + 1 + 1) 24 #[.int .i64 0, .int .i64 0] := (by first | exact Bk.call N5.out hb1 | exact Bk.call (Bk.drew N5.out) hb1); obtain ⟨n0, n1, n2, n3⟩ := N4.two; have N6 := Lib.hid N4; clear hb1 N4)
      | fail "arm"))
  all_goals
    go_split_ands
    go_wp2_with fail
    exact bodyPost_ret (v := (.agg #[.int .i64 (c.mul f.conj).a, .int .i64 (c.mul f.conj).b])) (by simp [results, Tryd.results103, go_sem, n0, n1]) rfl ⟨rfl, (by assumption : Fr w _ _).bl⟩

set_option maxHeartbeats 1000000 in
theorem refForceOf_any (c f : T3) (h : c.Bd 100000000) (g : f.Bd 100000000) (w : World) : Calls Tryd.prog 88 #[(.agg #[.int .i64 c.a, .int .i64 c.b]), (.agg #[.int .i64 f.a, .int .i64 f.b])] w fun e w' => e = .returned (.int .i64 (forceV c f)) ∧ Below w.heap.size w w' := by
  have B0 := Lib.hid (box2 w #[.int .i64 c.a, .int .i64 c.b] #[.int .i64 f.a, .int .i64 f.b] 24 24)
  have fb := field_b
  go_enter Tryd.func88, Tryd.ntmps88
  go_wp2_with fail
  refine (product_any c f h g _).mono ?_
  rintro e w1 ⟨rfl, hb1⟩
  have B1 := Lib.hid (Below.step B0.out hb1)
  clear hb1
  go_wp2_with fail
  go_ret
  exact ⟨rfl, B1.out⟩

end Go.Proofs.YtemjefhfplaibaaDoor
