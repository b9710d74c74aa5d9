
/-
  The walks of the functions of vectors: products, sums, turns.
-/
import Derived.Test.YtohldmmfnjfgmaaDoorTVec
import Derived.Deep.RegionHeld3
import Derived.Deep.DeepCutAuto
namespace Go.Proofs.YtohldmmfnjfgmaaDoor
open Go.RowKit

theorem ret_V {a b c d : Int} (h : a = c) (h' : b = d) : Ending.returned (.agg #[.int .i64 a, .int .i64 b]) = .returned (.agg #[.int .i64 c, .int .i64 d]) := by rw [h, h']
/-- The bounds of a product of two vectors. -/
theorem times_wraps {v u : T3} (h : v.Bd 1000000000) (g : u.Bd 1000000000) : (wrap64 (v.a * u.a) = v.a * u.a ∧ wrap64 (v.b * u.b) = v.b * u.b ∧ wrap64 (v.a * u.b) = v.a * u.b ∧ wrap64 (v.b * u.a) = v.b * u.a) ∧ wrap64 (v.a * u.a - v.b * u.b) = v.a * u.a - v.b * u.b ∧ wrap64 (v.a * u.b + v.b * u.a) = v.a * u.b + v.b * u.a ∧ wrap64 (v.a * u.b + v.b * u.a - v.b * u.b) = v.a * u.b + v.b * u.a - v.b * u.b := by
  obtain ⟨a0, a1, b0, b1⟩ := h
  obtain ⟨c0, c1, d0, d1⟩ := g
  obtain ⟨m1, m2⟩ := mulB ⟨a0, a1⟩ ⟨c0, c1⟩
  obtain ⟨m3, m4⟩ := mulB ⟨b0, b1⟩ ⟨d0, d1⟩
  obtain ⟨m5, m6⟩ := mulB ⟨a0, a1⟩ ⟨d0, d1⟩
  obtain ⟨m7, m8⟩ := mulB ⟨b0, b1⟩ ⟨c0, c1⟩
  exact ⟨⟨IntWalk.wrap64_in _ ⟨by omega, by omega⟩, IntWalk.wrap64_in _ ⟨by omega, by omega⟩, IntWalk.wrap64_in _ ⟨by omega, by omega⟩, IntWalk.wrap64_in _ ⟨by omega, by omega⟩⟩, IntWalk.wrap64_in _ ⟨by omega, by omega⟩, IntWalk.wrap64_in _ ⟨by omega, by omega⟩, IntWalk.wrap64_in _ ⟨by omega, by omega⟩⟩

set_option maxHeartbeats 400000 in
theorem times_any (v u : T3) (h : v.Bd 1000000000) (g : u.Bd 1000000000) (w : World) : Calls Tryd.prog 88 #[(.agg #[.int .i64 v.a, .int .i64 v.b]), (.agg #[.int .i64 u.a, .int .i64 u.b])] w fun e w' => e = .returned (.agg #[.int .i64 (v.mul u).a, .int .i64 (v.mul u).b]) ∧ Below w.heap.size w w' := by
  obtain ⟨⟨t1, t2, t3, t4⟩, t5, t6, t7⟩ := times_wraps h g
  have HW := Lib.hid (And.intro (And.intro t1 (And.intro t2 (And.intro t3 t4))) (And.intro t5 (And.intro t6 t7)))
  clear h g t1 t2 t3 t4 t5 t6 t7
  go_enter Tryd.func88, Tryd.ntmps88
  go_wp2
  exact bodyPost_ret (v := .agg #[.int .i64 (v.a * u.a - v.b * u.b), .int .i64 (v.a * u.b + v.b * u.a - v.b * u.b)]) (by obtain ⟨⟨t1, t2, t3, t4⟩, t5, t6, t7⟩ := HW.out; simp [results, Tryd.results88, go_sem, t1, t2, t3, t4, t5, t6, t7]) rfl ⟨rfl, box3 w _ _ _ _ _ _⟩

set_option maxHeartbeats 400000 in
theorem TMul_any (v u : T3) (h : v.Bd 1000000000) (g : u.Bd 1000000000) (w : World) : Calls Tryd.prog 43 #[(.agg #[.int .i64 v.a, .int .i64 v.b]), (.agg #[.int .i64 u.a, .int .i64 u.b])] w fun e w' => e = .returned (.agg #[.int .i64 (v.mul u).a, .int .i64 (v.mul u).b]) ∧ Below w.heap.size w w' := by
  obtain ⟨⟨t1, t2, t3, t4⟩, t5, t6, t7⟩ := times_wraps h g
  have HW := Lib.hid (And.intro (And.intro t1 (And.intro t2 (And.intro t3 t4))) (And.intro t5 (And.intro t6 t7)))
  clear h g t1 t2 t3 t4 t5 t6 t7
  go_enter Tryd.func43, Tryd.ntmps43
  go_wp2
  exact bodyPost_ret (v := .agg #[.int .i64 (v.a * u.a - v.b * u.b), .int .i64 (v.a * u.b + v.b * u.a - v.b * u.b)]) (by obtain ⟨⟨t1, t2, t3, t4⟩, t5, t6, t7⟩ := HW.out; simp [results, Tryd.results43, go_sem, t1, t2, t3, t4, t5, t6, t7]) rfl ⟨rfl, box3 w _ _ _ _ _ _⟩

theorem add_wraps {v u : T3} (h : v.Bd 4000000000000000000) (g : u.Bd 4000000000000000000) : wrap64 (v.a + u.a) = (v.add u).a ∧ wrap64 (v.b + u.b) = (v.add u).b ∧ wrap64 (v.a - u.a) = (v.sub u).a ∧ wrap64 (v.b - u.b) = (v.sub u).b := by
  obtain ⟨a0, a1, b0, b1⟩ := h
  obtain ⟨c0, c1, d0, d1⟩ := g
  exact ⟨IntWalk.wrap64_in _ ⟨by omega, by omega⟩, IntWalk.wrap64_in _ ⟨by omega, by omega⟩, IntWalk.wrap64_in _ ⟨by omega, by omega⟩, IntWalk.wrap64_in _ ⟨by omega, by omega⟩⟩
set_option maxHeartbeats 400000 in
theorem plus_any (v u : T3) (h : v.Bd 4000000000000000000) (g : u.Bd 4000000000000000000) (w : World) : Calls Tryd.prog 69 #[(.agg #[.int .i64 v.a, .int .i64 v.b]), (.agg #[.int .i64 u.a, .int .i64 u.b])] w fun e w' => e = .returned (.agg #[.int .i64 (v.add u).a, .int .i64 (v.add u).b]) ∧ Below w.heap.size w w' := by
  have HW := Lib.hid (add_wraps h g)
  clear h g
  go_enter Tryd.func69, Tryd.ntmps69
  go_wp2
  exact bodyPost_ret (v := .agg #[.int .i64 (wrap64 (v.a + u.a)), .int .i64 (wrap64 (v.b + u.b))]) (by simp [results, Tryd.results69, go_sem]) rfl ⟨ret_V HW.out.1 HW.out.2.1, box3 w _ _ _ _ _ _⟩
set_option maxHeartbeats 400000 in
theorem TAdd_any (v u : T3) (h : v.Bd 4000000000000000000) (g : u.Bd 4000000000000000000) (w : World) : Calls Tryd.prog 57 #[(.agg #[.int .i64 v.a, .int .i64 v.b]), (.agg #[.int .i64 u.a, .int .i64 u.b])] w fun e w' => e = .returned (.agg #[.int .i64 (v.add u).a, .int .i64 (v.add u).b]) ∧ Below w.heap.size w w' := by
  have HW := Lib.hid (add_wraps h g)
  clear h g
  go_enter Tryd.func57, Tryd.ntmps57
  go_wp2
  exact bodyPost_ret (v := .agg #[.int .i64 (wrap64 (v.a + u.a)), .int .i64 (wrap64 (v.b + u.b))]) (by simp [results, Tryd.results57, go_sem]) rfl ⟨ret_V HW.out.1 HW.out.2.1, box3 w _ _ _ _ _ _⟩
set_option maxHeartbeats 400000 in
theorem minus_any (v u : T3) (h : v.Bd 4000000000000000000) (g : u.Bd 4000000000000000000) (w : World) : Calls Tryd.prog 77 #[(.agg #[.int .i64 v.a, .int .i64 v.b]), (.agg #[.int .i64 u.a, .int .i64 u.b])] w fun e w' => e = .returned (.agg #[.int .i64 (v.sub u).a, .int .i64 (v.sub u).b]) ∧ Below w.heap.size w w' := by
  have HW := Lib.hid (add_wraps h g)
  clear h g
  go_enter Tryd.func77, Tryd.ntmps77
  go_wp2
  exact bodyPost_ret (v := .agg #[.int .i64 (wrap64 (v.a - u.a)), .int .i64 (wrap64 (v.b - u.b))]) (by simp [results, Tryd.results77, go_sem]) rfl ⟨ret_V HW.out.2.2.1 HW.out.2.2.2, box3 w _ _ _ _ _ _⟩
set_option maxHeartbeats 400000 in
theorem TSub_any (v u : T3) (h : v.Bd 4000000000000000000) (g : u.Bd 4000000000000000000) (w : World) : Calls Tryd.prog 85 #[(.agg #[.int .i64 v.a, .int .i64 v.b]), (.agg #[.int .i64 u.a, .int .i64 u.b])] w fun e w' => e = .returned (.agg #[.int .i64 (v.sub u).a, .int .i64 (v.sub u).b]) ∧ Below w.heap.size w w' := by
  have HW := Lib.hid (add_wraps h g)
  clear h g
  go_enter Tryd.func85, Tryd.ntmps85
  go_wp2
  exact bodyPost_ret (v := .agg #[.int .i64 (wrap64 (v.a - u.a)), .int .i64 (wrap64 (v.b - u.b))]) (by simp [results, Tryd.results85, go_sem]) rfl ⟨ret_V HW.out.2.2.1 HW.out.2.2.2, box3 w _ _ _ _ _ _⟩

theorem scl_wraps {n : Int} {v : T3} (hn : -1000000000 ≤ n ∧ n ≤ 1000000000) (h : v.Bd 1000000000) : wrap64 (n * v.a) = (T3.scl n v).a ∧ wrap64 (n * v.b) = (T3.scl n v).b := by
  obtain ⟨a0, a1, b0, b1⟩ := h
  obtain ⟨m1, m2⟩ := mulB hn ⟨a0, a1⟩
  obtain ⟨m3, m4⟩ := mulB hn ⟨b0, b1⟩
  exact ⟨IntWalk.wrap64_in _ ⟨by omega, by omega⟩, IntWalk.wrap64_in _ ⟨by omega, by omega⟩⟩
set_option maxHeartbeats 400000 in
theorem scaled_any (n : Int) (v : T3) (hn : -1000000000 ≤ n ∧ n ≤ 1000000000) (h : v.Bd 1000000000) (w : World) : Calls Tryd.prog 87 #[.int .i64 n, (.agg #[.int .i64 v.a, .int .i64 v.b])] w fun e w' => e = .returned (.agg #[.int .i64 (T3.scl n v).a, .int .i64 (T3.scl n v).b]) ∧ Below w.heap.size w w' := by
  have HW := Lib.hid (scl_wraps hn h)
  clear h hn
  go_enter Tryd.func87, Tryd.ntmps87
  go_wp2
  exact bodyPost_ret (v := .agg #[.int .i64 (wrap64 (n * v.a)), .int .i64 (wrap64 (n * v.b))]) (by simp [results, Tryd.results87, go_sem]) rfl ⟨ret_V HW.out.1 HW.out.2, box2 w _ _ _ _⟩

theorem conj_bd {v : T3} {M : Int} (h : v.Bd M) : v.conj.Bd (2 * M) := by
  obtain ⟨a0, a1, b0, b1⟩ := h
  exact ⟨by simp only [T3.conj]; omega, by simp only [T3.conj]; omega, by simp only [T3.conj]; omega, by simp only [T3.conj]; omega⟩

theorem field_b (a b : Int) (W : World) : (Instr.field 24 (.agg #[.int .i64 a, .int .i64 b]) 1).run Tryd.prog W = .ok (.int .i64 b) W := by kernel_rfl
theorem field_a (a b : Int) (W : World) : (Instr.field 24 (.agg #[.int .i64 a, .int .i64 b]) 0).run Tryd.prog W = .ok (.int .i64 a) W := by kernel_rfl
/-- Two vectors in boxes ahead of a region that draws its order: what each world in it has. -/
structure Two3 (W : World) (g1 g2 : Nat) (v u : T3) : Prop where
  x : Bk W g1 24 #[.int .i64 v.a, .int .i64 v.b]
  y : Bk W g2 24 #[.int .i64 u.a, .int .i64 u.b]
theorem Two3.call {W W' : World} {g1 g2 : Nat} {v u : T3} (h : Two3 W g1 g2 v u) (hb : Below W.heap.size W W') : Two3 W' g1 g2 v u := ⟨h.x.call hb, h.y.call hb⟩
theorem Two3.all {W : World} {g1 g2 : Nat} {v u : T3} (h : Two3 W g1 g2 v u) : W.cell? ⟨g1, 0, none⟩ = some (.int .i64 v.a) ∧ W.cell? ⟨g1, 1, none⟩ = some (.int .i64 v.b) ∧ W.cell? ⟨g2, 0, none⟩ = some (.int .i64 u.a) ∧ W.cell? ⟨g2, 1, none⟩ = some (.int .i64 u.b) :=
  ⟨h.x.cell 0, h.x.cell 1, h.y.cell 0, h.y.cell 1⟩
theorem Two3.start (w : World) (v u : T3) : Two3 ((w.alloc (.cells #[.int .i64 v.a, .int .i64 v.b] 24)).alloc (.cells #[.int .i64 u.a, .int .i64 u.b] 24)) w.heap.size (w.heap.size + 1) v u := ⟨(Bk.new w _ _).alloc _, Bk.new1 w _ _ _⟩
/-- What a region's worlds have, each below the one at its start. -/
def S2 (w3 : World) (g1 g2 : Nat) (v u : T3) (W : World) : Prop := Below w3.heap.size w3 W ∧ W.cell? ⟨g1, 0, none⟩ = some (.int .i64 v.a) ∧ W.cell? ⟨g1, 1, none⟩ = some (.int .i64 v.b) ∧ W.cell? ⟨g2, 0, none⟩ = some (.int .i64 u.a) ∧ W.cell? ⟨g2, 1, none⟩ = some (.int .i64 u.b)
theorem S2.mk {w3 : World} {g1 g2 : Nat} {v u : T3} (h : Two3 w3 g1 g2 v u) : ∀ W, Below w3.heap.size w3 W → S2 w3 g1 g2 v u W := fun _ hb => ⟨hb, (h.call hb).all⟩

set_option maxHeartbeats 1000000 in
set_option maxRecDepth 100000 in
theorem force_any (c f : T3) (h : c.Bd 100000000) (g : f.Bd 100000000) (w : World) : Calls Tryd.prog 76 #[(.agg #[.int .i64 c.a, .int .i64 c.b]), (.agg #[.int .i64 f.a, .int .i64 f.b])] w fun e w' => e = .returned (.int .i64 (forceV c f)) ∧ Below w.heap.size w w' := by
  have B0 := Lib.hid (box2 w #[.int .i64 c.a, .int .i64 c.b] #[.int .i64 f.a, .int .i64 f.b] 24 24)
  have HC := Lib.hid (h.more (K := 1000000000) (by omega))
  have HF := Lib.hid (g.more (K := 1000000000) (by omega))
  have HG := Lib.hid ((conj_bd g).more (K := 1000000000) (by omega))
  have T0 := Lib.hid (Two3.start w c f)
  clear h g
  go_enter Tryd.func76, Tryd.ntmps76
  go_wp2_with fail
  refine wp_abs ?_
  intro w3 h3
  have HALL : Hid (∀ W, Below w3.heap.size w3 W → S2 w3 w.heap.size (w.heap.size + 1) c f W) := Lib.hid (by subst h3; exact S2.mk T0.out)
  have B3 : Hid (Below w.heap.size w w3) := Lib.hid (by subst h3; exact B0.out)
  have s3 : w.heap.size ≤ w3.heap.size := B3.out.size
  obtain ⟨_, c0, c1, f0, f1⟩ := HALL.out _ (Below.refl _ _)
  clear h3 T0 B0
  have fb := field_b
  go_region_held3 (fun W => Below w3.heap.size w3 W ∧ W.cell? ⟨w.heap.size, 0, none⟩ = some (.int .i64 c.a) ∧ W.cell? ⟨w.heap.size, 1, none⟩ = some (.int .i64 c.b) ∧ W.cell? ⟨w.heap.size + 1, 0, none⟩ = some (.int .i64 f.a) ∧ W.cell? ⟨w.heap.size + 1, 1, none⟩ = some (.int .i64 f.b))
    ((go_split_ands; refine HALL.out _ ?_; (first | assumption | exact Below.refl _ _ | exact (Below.refl _ _).drew | fail "keep")))
    ((first
      | (go_at_call 89; go_split_ands; (with_reducible refine (conjugate_any f HF.out _).mono ?_); rintro e w1 ⟨rfl, hb1⟩; have b1 : Below w3.heap.size w3 w1 := Below.step (by assumption) hb1; clear hb1)
      | (go_at_call 88; go_split_ands; (with_reducible refine (times_any c f.conj HC.out HG.out _).mono ?_); rintro e w1 ⟨rfl, hb1⟩; have b1 : Below w3.heap.size w3 w1 := Below.step (by assumption) hb1; clear hb1)
      | fail "arm"))
  all_goals
    go_split_ands
    go_wp2_with fail
    go_ret
    exact ⟨rfl, B3.out.trans ((by assumption : Below w3.heap.size w3 _).mono s3)⟩
end Go.Proofs.YtohldmmfnjfgmaaDoor
