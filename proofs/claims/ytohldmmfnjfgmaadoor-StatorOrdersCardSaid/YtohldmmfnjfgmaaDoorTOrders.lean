
/-
  The walk of StatorOrders.
-/
import Derived.Test.YtohldmmfnjfgmaaDoorTHrF
import Derived.Test.YtohldmmfnjfgmaaDoorTHarm
namespace Go.Proofs.YtohldmmfnjfgmaaDoor
open Go.RowKit

theorem Fr.put6 {w W : World} {bs : List (Nat × TypeId × Array Value)} {g : Nat} {t : TypeId} {v0 v1 v2 v3 v4 v5 : Value} (h : Fr w W ((g, t, #[.int .i64 0, .int .i64 0, .int .i64 0, .int .i64 0, .int .i64 0, .int .i64 0]) :: bs)) (hg : w.heap.size ≤ g) (hn : ∀ b ∈ bs, b.1 ≠ g) : Fr w ((((((W.setCell ⟨g, 0, none⟩ v0).setCell ⟨g, 1, none⟩ v1).setCell ⟨g, 2, none⟩ v2).setCell ⟨g, 3, none⟩ v3).setCell ⟨g, 4, none⟩ v4).setCell ⟨g, 5, none⟩ v5) ((g, t, #[v0, v1, v2, v3, v4, v5]) :: bs) := by
  have := (((((h.put 0 v0 hg hn).put 1 v1 hg hn).put 2 v2 hg hn).put 3 v3 hg hn).put 4 v4 hg hn).put 5 v5 hg hn
  simpa using this
theorem eqT6_same (f : Nat → T3) (w : World) : (Op.equalIn 10000 25 (.agg #[.int .i64 (f 0).a, .int .i64 (f 0).b, .int .i64 (f 1).a, .int .i64 (f 1).b, .int .i64 (f 2).a, .int .i64 (f 2).b, .int .i64 (f 3).a, .int .i64 (f 3).b, .int .i64 (f 4).a, .int .i64 (f 4).b, .int .i64 (f 5).a, .int .i64 (f 5).b]) (.agg #[.int .i64 (f 0).a, .int .i64 (f 0).b, .int .i64 (f 1).a, .int .i64 (f 1).b, .int .i64 (f 2).a, .int .i64 (f 2).b, .int .i64 (f 3).a, .int .i64 (f 3).b, .int .i64 (f 4).a, .int .i64 (f 4).b, .int .i64 (f 5).a, .int .i64 (f 5).b])).run Tryd.prog w = .ok true w := by
  have u3 := Tryd.underlying24
  have a3 := Tryd.isAgg24
  have z3 := Tryd.sizeOf24
  have u4 := Tryd.underlying3
  have a4 := Tryd.isAgg3
  have z4 := Tryd.sizeOf3
  rw [show (10000 : Nat) = 9999 + 1 from rfl, Op.equalIn]
  simp only [Sem.run_bind, run_underlying Tryd.underlying25, Result.andThen_ok]
  simp only [Std.Legacy.Range.forIn_eq_forIn_range', Std.Legacy.Range.size, Nat.sub_zero, Nat.add_sub_cancel, Nat.div_one, List.range'_succ, List.range'_zero, List.forIn_cons, List.forIn_nil]
  go_simp

set_option maxHeartbeats 8000000 in
set_option maxRecDepth 100000 in
theorem ord_ok_ok (x : Nat → Int) (h : Nat → T3) (A : Nat → T3) (en : Int) (v : Nat → Int) (ee : Int) (HS : Hid (∀ w, Calls Tryd.prog 13 #[.agg #[.int .i64 (x 0), .int .i64 (x 1), .int .i64 (x 2), .int .i64 (x 3), .int .i64 (x 4), .int .i64 (x 5)]] w fun e w' => e = .returned (.int .i64 0) ∧ Below w.heap.size w w')) (HOR : Hid (∀ w, Calls Tryd.prog 10 #[.agg #[.int .i64 (x 0), .int .i64 (x 1), .int .i64 (x 2), .int .i64 (x 3), .int .i64 (x 4), .int .i64 (x 5)]] w fun e w' => e = .returned (.tuple #[.agg #[.int .i64 (A 0).a, .int .i64 (A 0).b, .int .i64 (A 1).a, .int .i64 (A 1).b, .int .i64 (A 2).a, .int .i64 (A 2).b, .int .i64 (A 3).a, .int .i64 (A 3).b, .int .i64 (A 4).a, .int .i64 (A 4).b, .int .i64 (A 5).a, .int .i64 (A 5).b], .int .i64 0]) ∧ Below w.heap.size w w')) (HEN : Hid (∀ w, Calls Tryd.prog 11 #[.agg #[.int .i64 (x 0), .int .i64 (x 1), .int .i64 (x 2), .int .i64 (x 3), .int .i64 (x 4), .int .i64 (x 5)]] w fun e w' => e = .returned (.tuple #[.int .i64 en, .int .i64 0]) ∧ Below w.heap.size w w')) (HSA : Hid (∀ w, Calls Tryd.prog 12 #[.agg #[.int .i64 (h 0).a, .int .i64 (h 0).b, .int .i64 (h 1).a, .int .i64 (h 1).b, .int .i64 (h 2).a, .int .i64 (h 2).b, .int .i64 (h 3).a, .int .i64 (h 3).b, .int .i64 (h 4).a, .int .i64 (h 4).b, .int .i64 (h 5).a, .int .i64 (h 5).b]] w fun e w' => e = .returned (.tuple #[.agg #[.int .i64 (v 0), .int .i64 (v 1), .int .i64 (v 2), .int .i64 (v 3), .int .i64 (v 4), .int .i64 (v 5)], .int .i64 ee]) ∧ Below w.heap.size w w')) (HOE : Hid (∀ w, Calls Tryd.prog 16 #[.agg #[.int .i64 (h 0).a, .int .i64 (h 0).b, .int .i64 (h 1).a, .int .i64 (h 1).b, .int .i64 (h 2).a, .int .i64 (h 2).b, .int .i64 (h 3).a, .int .i64 (h 3).b, .int .i64 (h 4).a, .int .i64 (h 4).b, .int .i64 (h 5).a, .int .i64 (h 5).b]] w fun e w' => e = .returned (.int .i64 0) ∧ Below w.heap.size w w')) (HRO : Hid (∀ w, Calls Tryd.prog 14 #[.agg #[.int .i64 (x 0), .int .i64 (x 1), .int .i64 (x 2), .int .i64 (x 3), .int .i64 (x 4), .int .i64 (x 5)]] w fun e w' => e = .returned (.agg #[.int .i64 (A 0).a, .int .i64 (A 0).b, .int .i64 (A 1).a, .int .i64 (A 1).b, .int .i64 (A 2).a, .int .i64 (A 2).b, .int .i64 (A 3).a, .int .i64 (A 3).b, .int .i64 (A 4).a, .int .i64 (A 4).b, .int .i64 (A 5).a, .int .i64 (A 5).b]) ∧ Below w.heap.size w w')) (HRE : Hid (∀ w, Calls Tryd.prog 15 #[.agg #[.int .i64 (x 0), .int .i64 (x 1), .int .i64 (x 2), .int .i64 (x 3), .int .i64 (x 4), .int .i64 (x 5)]] w fun e w' => e = .returned (.int .i64 en) ∧ Below w.heap.size w w')) (HRS : Hid (∀ w, Calls Tryd.prog 17 #[.agg #[.int .i64 (h 0).a, .int .i64 (h 0).b, .int .i64 (h 1).a, .int .i64 (h 1).b, .int .i64 (h 2).a, .int .i64 (h 2).b, .int .i64 (h 3).a, .int .i64 (h 3).b, .int .i64 (h 4).a, .int .i64 (h 4).b, .int .i64 (h 5).a, .int .i64 (h 5).b]] w fun e w' => e = .returned (.tuple #[.agg #[.int .i64 (v 0), .int .i64 (v 1), .int .i64 (v 2), .int .i64 (v 3), .int .i64 (v 4), .int .i64 (v 5)], .int .i64 ee]) ∧ Below w.heap.size w w')) (w : World) (hT : Tab w) : Calls Tryd.prog 3 #[.agg #[.int .i64 (x 0), .int .i64 (x 1), .int .i64 (x 2), .int .i64 (x 3), .int .i64 (x 4), .int .i64 (x 5)], .agg #[.int .i64 (h 0).a, .int .i64 (h 0).b, .int .i64 (h 1).a, .int .i64 (h 1).b, .int .i64 (h 2).a, .int .i64 (h 2).b, .int .i64 (h 3).a, .int .i64 (h 3).b, .int .i64 (h 4).a, .int .i64 (h 4).b, .int .i64 (h 5).a, .int .i64 (h 5).b]] w fun e w' => e = .returned (.bool true) ∧ Below w.heap.size w w' := by
  have F0 := Lib.hid (Fr.b2 w 22 #[.int .i64 (x 0), .int .i64 (x 1), .int .i64 (x 2), .int .i64 (x 3), .int .i64 (x 4), .int .i64 (x 5)] 25 #[.int .i64 (h 0).a, .int .i64 (h 0).b, .int .i64 (h 1).a, .int .i64 (h 1).b, .int .i64 (h 2).a, .int .i64 (h 2).b, .int .i64 (h 3).a, .int .i64 (h 3).b, .int .i64 (h 4).a, .int .i64 (h 4).b, .int .i64 (h 5).a, .int .i64 (h 5).b])
  have T0 := Lib.hid ((hT.new (.cells #[.int .i64 (x 0), .int .i64 (x 1), .int .i64 (x 2), .int .i64 (x 3), .int .i64 (x 4), .int .i64 (x 5)] 22)).new (.cells #[.int .i64 (h 0).a, .int .i64 (h 0).b, .int .i64 (h 1).a, .int .i64 (h 1).b, .int .i64 (h 2).a, .int .i64 (h 2).b, .int .i64 (h 3).a, .int .i64 (h 3).b, .int .i64 (h 4).a, .int .i64 (h 4).b, .int .i64 (h 5).a, .int .i64 (h 5).b] 25))
  clear hT
  go_enter Tryd.func3, Tryd.ntmps3
  go_wp2_with fail
  refine (awake_any _ T0.out).mono ?_
  rintro e w1 ⟨rfl, hb1⟩
  have F1 := Lib.hid (F0.out.call hb1)
  clear hb1 F0
  have x0 := F1.out.at1.cell 0
  have x1 := F1.out.at1.cell 1
  have x2 := F1.out.at1.cell 2
  have x3 := F1.out.at1.cell 3
  have x4 := F1.out.at1.cell 4
  have x5 := F1.out.at1.cell 5
  go_wp2_with fail
  refine (HOR.out _).mono ?_
  rintro e w2 ⟨rfl, hb2⟩
  have G2 := F1.out.call hb2
  clear hb2 F1 x0 x1 x2 x3 x4 x5
  have x0 := G2.at1.cell 0
  have x1 := G2.at1.cell 1
  have x2 := G2.at1.cell 2
  have x3 := G2.at1.cell 3
  have x4 := G2.at1.cell 4
  have x5 := G2.at1.cell 5
  have z1 := G2.top.lt
  have z2 := G2.at1.lt
  have F3 : Hid (Fr w _ [(w2.heap.size, 25, #[.int .i64 (A 0).a, .int .i64 (A 0).b, .int .i64 (A 1).a, .int .i64 (A 1).b, .int .i64 (A 2).a, .int .i64 (A 2).b, .int .i64 (A 3).a, .int .i64 (A 3).b, .int .i64 (A 4).a, .int .i64 (A 4).b, .int .i64 (A 5).a, .int .i64 (A 5).b]), (w.heap.size + 1, 25, #[.int .i64 (h 0).a, .int .i64 (h 0).b, .int .i64 (h 1).a, .int .i64 (h 1).b, .int .i64 (h 2).a, .int .i64 (h 2).b, .int .i64 (h 3).a, .int .i64 (h 3).b, .int .i64 (h 4).a, .int .i64 (h 4).b, .int .i64 (h 5).a, .int .i64 (h 5).b]), (w.heap.size, 22, #[.int .i64 (x 0), .int .i64 (x 1), .int .i64 (x 2), .int .i64 (x 3), .int .i64 (x 4), .int .i64 (x 5)])]) := Lib.hid (G2.box 25 #[.int .i64 (A 0).a, .int .i64 (A 0).b, .int .i64 (A 1).a, .int .i64 (A 1).b, .int .i64 (A 2).a, .int .i64 (A 2).b, .int .i64 (A 3).a, .int .i64 (A 3).b, .int .i64 (A 4).a, .int .i64 (A 4).b, .int .i64 (A 5).a, .int .i64 (A 5).b])
  clear G2
  go_wp2_with fail
  refine (HEN.out _).mono ?_
  rintro e w4 ⟨rfl, hb4⟩
  have F4 := Lib.hid (F3.out.call hb4)
  clear hb4 F3 z1 z2 x0 x1 x2 x3 x4 x5
  have h0 := F4.out.at1.cell 0
  have h1 := F4.out.at1.cell 1
  have h2 := F4.out.at1.cell 2
  have h3 := F4.out.at1.cell 3
  have h4 := F4.out.at1.cell 4
  have h5 := F4.out.at1.cell 5
  have h6 := F4.out.at1.cell 6
  have h7 := F4.out.at1.cell 7
  have h8 := F4.out.at1.cell 8
  have h9 := F4.out.at1.cell 9
  have h10 := F4.out.at1.cell 10
  have h11 := F4.out.at1.cell 11
  go_wp2_with fail
  refine (HSA.out _).mono ?_
  rintro e w5 ⟨rfl, hb5⟩
  have G5 := F4.out.call hb5
  clear hb5 F4 h0 h1 h2 h3 h4 h5 h6 h7 h8 h9 h10 h11
  have x0 := G5.at2.cell 0
  have x1 := G5.at2.cell 1
  have x2 := G5.at2.cell 2
  have x3 := G5.at2.cell 3
  have x4 := G5.at2.cell 4
  have x5 := G5.at2.cell 5
  have z1 := G5.top.lt
  have z2 := G5.at1.lt
  have z3 := G5.at2.lt
  have F5 : Hid (Fr w _ [(w5.heap.size, 22, #[.int .i64 (v 0), .int .i64 (v 1), .int .i64 (v 2), .int .i64 (v 3), .int .i64 (v 4), .int .i64 (v 5)]), (w2.heap.size, 25, #[.int .i64 (A 0).a, .int .i64 (A 0).b, .int .i64 (A 1).a, .int .i64 (A 1).b, .int .i64 (A 2).a, .int .i64 (A 2).b, .int .i64 (A 3).a, .int .i64 (A 3).b, .int .i64 (A 4).a, .int .i64 (A 4).b, .int .i64 (A 5).a, .int .i64 (A 5).b]), (w.heap.size + 1, 25, #[.int .i64 (h 0).a, .int .i64 (h 0).b, .int .i64 (h 1).a, .int .i64 (h 1).b, .int .i64 (h 2).a, .int .i64 (h 2).b, .int .i64 (h 3).a, .int .i64 (h 3).b, .int .i64 (h 4).a, .int .i64 (h 4).b, .int .i64 (h 5).a, .int .i64 (h 5).b]), (w.heap.size, 22, #[.int .i64 (x 0), .int .i64 (x 1), .int .i64 (x 2), .int .i64 (x 3), .int .i64 (x 4), .int .i64 (x 5)])]) := Lib.hid (G5.box 22 #[.int .i64 (v 0), .int .i64 (v 1), .int .i64 (v 2), .int .i64 (v 3), .int .i64 (v 4), .int .i64 (v 5)])
  clear G5
  go_wp2_with fail
  refine (HS.out _).mono ?_
  rintro e w6 ⟨rfl, hb6⟩
  have F6 := Lib.hid (F5.out.call hb6)
  clear hb6 F5 z1 z2 z3 x0 x1 x2 x3 x4 x5
  go_upto_region 10 with fail
  have F8 : Fr w _ [(w5.heap.size, 22, #[.int .i64 (v 0), .int .i64 (v 1), .int .i64 (v 2), .int .i64 (v 3), .int .i64 (v 4), .int .i64 (v 5)]), (w2.heap.size, 25, #[.int .i64 (A 0).a, .int .i64 (A 0).b, .int .i64 (A 1).a, .int .i64 (A 1).b, .int .i64 (A 2).a, .int .i64 (A 2).b, .int .i64 (A 3).a, .int .i64 (A 3).b, .int .i64 (A 4).a, .int .i64 (A 4).b, .int .i64 (A 5).a, .int .i64 (A 5).b]), (w.heap.size + 1, 25, #[.int .i64 (h 0).a, .int .i64 (h 0).b, .int .i64 (h 1).a, .int .i64 (h 1).b, .int .i64 (h 2).a, .int .i64 (h 2).b, .int .i64 (h 3).a, .int .i64 (h 3).b, .int .i64 (h 4).a, .int .i64 (h 4).b, .int .i64 (h 5).a, .int .i64 (h 5).b]), (w.heap.size, 22, #[.int .i64 (x 0), .int .i64 (x 1), .int .i64 (x 2), .int .i64 (x 3), .int .i64 (x 4), .int .i64 (x 5)])] := F6.out
  have HALL : Hid (∀ W, Fr w W [(w5.heap.size, 22, #[.int .i64 (v 0), .int .i64 (v 1), .int .i64 (v 2), .int .i64 (v 3), .int .i64 (v 4), .int .i64 (v 5)]), (w2.heap.size, 25, #[.int .i64 (A 0).a, .int .i64 (A 0).b, .int .i64 (A 1).a, .int .i64 (A 1).b, .int .i64 (A 2).a, .int .i64 (A 2).b, .int .i64 (A 3).a, .int .i64 (A 3).b, .int .i64 (A 4).a, .int .i64 (A 4).b, .int .i64 (A 5).a, .int .i64 (A 5).b]), (w.heap.size + 1, 25, #[.int .i64 (h 0).a, .int .i64 (h 0).b, .int .i64 (h 1).a, .int .i64 (h 1).b, .int .i64 (h 2).a, .int .i64 (h 2).b, .int .i64 (h 3).a, .int .i64 (h 3).b, .int .i64 (h 4).a, .int .i64 (h 4).b, .int .i64 (h 5).a, .int .i64 (h 5).b]), (w.heap.size, 22, #[.int .i64 (x 0), .int .i64 (x 1), .int .i64 (x 2), .int .i64 (x 3), .int .i64 (x 4), .int .i64 (x 5)])] → Fr w W [(w5.heap.size, 22, #[.int .i64 (v 0), .int .i64 (v 1), .int .i64 (v 2), .int .i64 (v 3), .int .i64 (v 4), .int .i64 (v 5)]), (w2.heap.size, 25, #[.int .i64 (A 0).a, .int .i64 (A 0).b, .int .i64 (A 1).a, .int .i64 (A 1).b, .int .i64 (A 2).a, .int .i64 (A 2).b, .int .i64 (A 3).a, .int .i64 (A 3).b, .int .i64 (A 4).a, .int .i64 (A 4).b, .int .i64 (A 5).a, .int .i64 (A 5).b]), (w.heap.size + 1, 25, #[.int .i64 (h 0).a, .int .i64 (h 0).b, .int .i64 (h 1).a, .int .i64 (h 1).b, .int .i64 (h 2).a, .int .i64 (h 2).b, .int .i64 (h 3).a, .int .i64 (h 3).b, .int .i64 (h 4).a, .int .i64 (h 4).b, .int .i64 (h 5).a, .int .i64 (h 5).b]), (w.heap.size, 22, #[.int .i64 (x 0), .int .i64 (x 1), .int .i64 (x 2), .int .i64 (x 3), .int .i64 (x 4), .int .i64 (x 5)])] ∧ W.cell? ⟨w2.heap.size, 0, none⟩ = some (.int .i64 (A 0).a) ∧ W.cell? ⟨w2.heap.size, 1, none⟩ = some (.int .i64 (A 0).b) ∧ W.cell? ⟨w2.heap.size, 2, none⟩ = some (.int .i64 (A 1).a) ∧ W.cell? ⟨w2.heap.size, 3, none⟩ = some (.int .i64 (A 1).b) ∧ W.cell? ⟨w2.heap.size, 4, none⟩ = some (.int .i64 (A 2).a) ∧ W.cell? ⟨w2.heap.size, 5, none⟩ = some (.int .i64 (A 2).b) ∧ W.cell? ⟨w2.heap.size, 6, none⟩ = some (.int .i64 (A 3).a) ∧ W.cell? ⟨w2.heap.size, 7, none⟩ = some (.int .i64 (A 3).b) ∧ W.cell? ⟨w2.heap.size, 8, none⟩ = some (.int .i64 (A 4).a) ∧ W.cell? ⟨w2.heap.size, 9, none⟩ = some (.int .i64 (A 4).b) ∧ W.cell? ⟨w2.heap.size, 10, none⟩ = some (.int .i64 (A 5).a) ∧ W.cell? ⟨w2.heap.size, 11, none⟩ = some (.int .i64 (A 5).b) ∧ W.cell? ⟨w.heap.size, 0, none⟩ = some (.int .i64 (x 0)) ∧ W.cell? ⟨w.heap.size, 1, none⟩ = some (.int .i64 (x 1)) ∧ W.cell? ⟨w.heap.size, 2, none⟩ = some (.int .i64 (x 2)) ∧ W.cell? ⟨w.heap.size, 3, none⟩ = some (.int .i64 (x 3)) ∧ W.cell? ⟨w.heap.size, 4, none⟩ = some (.int .i64 (x 4)) ∧ W.cell? ⟨w.heap.size, 5, none⟩ = some (.int .i64 (x 5))) := Lib.hid (fun W hW => ⟨hW, hW.at1.cell 0, hW.at1.cell 1, hW.at1.cell 2, hW.at1.cell 3, hW.at1.cell 4, hW.at1.cell 5, hW.at1.cell 6, hW.at1.cell 7, hW.at1.cell 8, hW.at1.cell 9, hW.at1.cell 10, hW.at1.cell 11, hW.at3.cell 0, hW.at3.cell 1, hW.at3.cell 2, hW.at3.cell 3, hW.at3.cell 4, hW.at3.cell 5⟩)
  have hq := eqT6_same A
  clear F6
  refine Tw_start 17 (fun W => Fr w W [(w5.heap.size, 22, #[.int .i64 (v 0), .int .i64 (v 1), .int .i64 (v 2), .int .i64 (v 3), .int .i64 (v 4), .int .i64 (v 5)]), (w2.heap.size, 25, #[.int .i64 (A 0).a, .int .i64 (A 0).b, .int .i64 (A 1).a, .int .i64 (A 1).b, .int .i64 (A 2).a, .int .i64 (A 2).b, .int .i64 (A 3).a, .int .i64 (A 3).b, .int .i64 (A 4).a, .int .i64 (A 4).b, .int .i64 (A 5).a, .int .i64 (A 5).b]), (w.heap.size + 1, 25, #[.int .i64 (h 0).a, .int .i64 (h 0).b, .int .i64 (h 1).a, .int .i64 (h 1).b, .int .i64 (h 2).a, .int .i64 (h 2).b, .int .i64 (h 3).a, .int .i64 (h 3).b, .int .i64 (h 4).a, .int .i64 (h 4).b, .int .i64 (h 5).a, .int .i64 (h 5).b]), (w.heap.size, 22, #[.int .i64 (x 0), .int .i64 (x 1), .int .i64 (x 2), .int .i64 (x 3), .int .i64 (x 4), .int .i64 (x 5)])] ∧ W.cell? ⟨w2.heap.size, 0, none⟩ = some (.int .i64 (A 0).a) ∧ W.cell? ⟨w2.heap.size, 1, none⟩ = some (.int .i64 (A 0).b) ∧ W.cell? ⟨w2.heap.size, 2, none⟩ = some (.int .i64 (A 1).a) ∧ W.cell? ⟨w2.heap.size, 3, none⟩ = some (.int .i64 (A 1).b) ∧ W.cell? ⟨w2.heap.size, 4, none⟩ = some (.int .i64 (A 2).a) ∧ W.cell? ⟨w2.heap.size, 5, none⟩ = some (.int .i64 (A 2).b) ∧ W.cell? ⟨w2.heap.size, 6, none⟩ = some (.int .i64 (A 3).a) ∧ W.cell? ⟨w2.heap.size, 7, none⟩ = some (.int .i64 (A 3).b) ∧ W.cell? ⟨w2.heap.size, 8, none⟩ = some (.int .i64 (A 4).a) ∧ W.cell? ⟨w2.heap.size, 9, none⟩ = some (.int .i64 (A 4).b) ∧ W.cell? ⟨w2.heap.size, 10, none⟩ = some (.int .i64 (A 5).a) ∧ W.cell? ⟨w2.heap.size, 11, none⟩ = some (.int .i64 (A 5).b) ∧ W.cell? ⟨w.heap.size, 0, none⟩ = some (.int .i64 (x 0)) ∧ W.cell? ⟨w.heap.size, 1, none⟩ = some (.int .i64 (x 1)) ∧ W.cell? ⟨w.heap.size, 2, none⟩ = some (.int .i64 (x 2)) ∧ W.cell? ⟨w.heap.size, 3, none⟩ = some (.int .i64 (x 3)) ∧ W.cell? ⟨w.heap.size, 4, none⟩ = some (.int .i64 (x 4)) ∧ W.cell? ⟨w.heap.size, 5, none⟩ = some (.int .i64 (x 5))) (by kernel_rfl) (by kernel_rfl) rfl ?_ ?_
  · (try dsimp only)
    ((go_split_ands; refine HALL.out _ ?_; (first | assumption | (repeat (first | assumption | refine Fr.new ?_ _ | refine Fr.drew ?_ | (refine Fr.set ?_ (by first | exact Nat.le_refl _ | omega | (simp; done) | (simp; omega)) (by first | (simp; done) | (simp; omega)) _))); done)))
  refine Tw_takeL (i := 0) (v := ?tv1) rfl (by kernel_rfl) (by decide) (by kernel_rfl) (by kernel_rfl) (fun _ _ _ h => h) (by rfl) ?ty1 ?tn1
  case ty1 => (intro w hSw; (try dsimp only at hSw); go_simp <;> with_reducible rfl)
  (try simp only [Act.put, List.setIfInBounds_toArray, List.set_cons_zero, List.set_cons_succ])
  refine Tw_takeL (i := 1) (v := ?tv2) rfl (by kernel_rfl) (by decide) (by kernel_rfl) (by kernel_rfl) (fun _ _ _ h => h) (by rfl) ?ty2 ?tn2
  case ty2 => (intro w hSw; (try dsimp only at hSw); go_simp <;> with_reducible rfl)
  (try simp only [Act.put, List.setIfInBounds_toArray, List.set_cons_zero, List.set_cons_succ])
  refine Tw_takeL (i := 2) (v := ?tv3) rfl (by kernel_rfl) (by decide) (by kernel_rfl) (by kernel_rfl) (fun _ _ _ h => h) (by rfl) ?ty3 ?tn3
  case ty3 => (intro w hSw; (try dsimp only at hSw); go_simp <;> with_reducible rfl)
  (try simp only [Act.put, List.setIfInBounds_toArray, List.set_cons_zero, List.set_cons_succ])
  refine Tw_takeL (i := 3) (v := ?tv4) rfl (by kernel_rfl) (by decide) (by kernel_rfl) (by kernel_rfl) (fun _ _ _ h => h) (by rfl) ?ty4 ?tn4
  case ty4 => (intro w hSw; (try dsimp only at hSw); go_simp <;> with_reducible rfl)
  (try simp only [Act.put, List.setIfInBounds_toArray, List.set_cons_zero, List.set_cons_succ])
  refine Tw_takeL (i := 4) (v := ?tv5) rfl (by kernel_rfl) (by decide) (by kernel_rfl) (by kernel_rfl) (fun _ _ _ h => h) (by rfl) ?ty5 ?tn5
  case ty5 => (intro w hSw; (try dsimp only at hSw); go_simp <;> with_reducible rfl)
  (try simp only [Act.put, List.setIfInBounds_toArray, List.set_cons_zero, List.set_cons_succ])
  refine Tw_all (rs := [5]) (by kernel_rfl) (by simp) (by decide) (fun hHeld => ?_)
  refine AllT.consL rfl (fun K hK => ?_) AllT.nil
  go_simp
  (go_at_call 14; go_split_ands; (with_reducible refine (HRO.out _).mono ?_); rintro e w7 ⟨rfl, hb7⟩; have F4 := Fr.call (by assumption) hb7; clear hb7)
  refine hK.out _ _ ?_ ?_
  · (try dsimp only)
    ((go_split_ands; refine HALL.out _ ?_; (first | assumption | (repeat (first | assumption | refine Fr.new ?_ _ | refine Fr.drew ?_ | (refine Fr.set ?_ (by first | exact Nat.le_refl _ | omega | (simp; done) | (simp; omega)) (by first | (simp; done) | (simp; omega)) _))); done)))
  clear hK K
  (try simp only [Act.put, List.setIfInBounds_toArray, List.set_cons_zero, List.set_cons_succ])
  refine Tw_takeL (i := 6) (v := ?tv6) rfl (by kernel_rfl) (by decide) (by kernel_rfl) (by kernel_rfl) (fun _ _ _ h => h) (by rfl) ?ty6 ?tn6
  case ty6 => (intro w hSw; (try dsimp only at hSw); go_simp <;> with_reducible rfl)
  (try simp only [Act.put, List.setIfInBounds_toArray, List.set_cons_zero, List.set_cons_succ])
  refine Tw_takeL (i := 7) (v := ?tv7) rfl (by kernel_rfl) (by decide) (by kernel_rfl) (by kernel_rfl) (fun _ _ _ h => h) (by rfl) ?ty7 ?tn7
  case ty7 => (intro w hSw; (try dsimp only at hSw); go_simp <;> with_reducible rfl)
  (try simp only [Act.put, List.setIfInBounds_toArray, List.set_cons_zero, List.set_cons_succ])
  refine Tw_takeL (i := 8) (v := ?tv8) rfl (by kernel_rfl) (by decide) (by kernel_rfl) (by kernel_rfl) (fun _ _ _ h => h) (by rfl) ?ty8 ?tn8
  case ty8 => (intro w hSw; (try dsimp only at hSw); go_simp <;> with_reducible rfl)
  (try simp only [Act.put, List.setIfInBounds_toArray, List.set_cons_zero, List.set_cons_succ])
  refine Tw_takeL (i := 9) (v := ?tv9) rfl (by kernel_rfl) (by decide) (by kernel_rfl) (by kernel_rfl) (fun _ _ _ h => h) (by rfl) ?ty9 ?tn9
  case ty9 => (intro w hSw; (try dsimp only at hSw); go_simp <;> with_reducible rfl)
  (try simp only [Act.put, List.setIfInBounds_toArray, List.set_cons_zero, List.set_cons_succ])
  refine Tw_takeL (i := 10) (v := ?tv10) rfl (by kernel_rfl) (by decide) (by kernel_rfl) (by kernel_rfl) (fun _ _ _ h => h) (by rfl) ?ty10 ?tn10
  case ty10 => (intro w hSw; (try dsimp only at hSw); go_simp <;> with_reducible rfl)
  (try simp only [Act.put, List.setIfInBounds_toArray, List.set_cons_zero, List.set_cons_succ])
  refine Tw_takeL (i := 11) (v := ?tv11) rfl (by kernel_rfl) (by decide) (by kernel_rfl) (by kernel_rfl) (fun _ _ _ h => h) (by rfl) ?ty11 ?tn11
  case ty11 => (intro w hSw; (try dsimp only at hSw); go_simp <;> with_reducible rfl)
  (try simp only [Act.put, List.setIfInBounds_toArray, List.set_cons_zero, List.set_cons_succ])
  refine Tw_takeL (i := 12) (v := ?tv12) rfl (by kernel_rfl) (by decide) (by kernel_rfl) (by kernel_rfl) (fun _ _ _ h => h) (by rfl) ?ty12 ?tn12
  case ty12 => (intro w hSw; (try dsimp only at hSw); go_simp <;> with_reducible rfl)
  (try simp only [Act.put, List.setIfInBounds_toArray, List.set_cons_zero, List.set_cons_succ])
  refine Tw_takeL (i := 13) (v := ?tv13) rfl (by kernel_rfl) (by decide) (by kernel_rfl) (by kernel_rfl) (fun _ _ _ h => h) (by rfl) ?ty13 ?tn13
  case ty13 => (intro w hSw; (try dsimp only at hSw); go_simp <;> with_reducible rfl)
  (try simp only [Act.put, List.setIfInBounds_toArray, List.set_cons_zero, List.set_cons_succ])
  refine Tw_takeL (i := 14) (v := ?tv14) rfl (by kernel_rfl) (by decide) (by kernel_rfl) (by kernel_rfl) (fun _ _ _ h => h) (by rfl) ?ty14 ?tn14
  case ty14 => (intro w hSw; (try dsimp only at hSw); go_simp <;> with_reducible rfl)
  (try simp only [Act.put, List.setIfInBounds_toArray, List.set_cons_zero, List.set_cons_succ])
  refine Tw_all (rs := [15]) (by kernel_rfl) (by simp) (by decide) (fun hHeld => ?_)
  refine AllT.consL rfl (fun K hK => ?_) AllT.nil
  go_simp
  (go_at_call 15; go_split_ands; (with_reducible refine (HRE.out _).mono ?_); rintro e w7 ⟨rfl, hb7⟩; have F4 := Fr.call (by assumption) hb7; clear hb7)
  refine hK.out _ _ ?_ ?_
  · (try dsimp only)
    ((go_split_ands; refine HALL.out _ ?_; (first | assumption | (repeat (first | assumption | refine Fr.new ?_ _ | refine Fr.drew ?_ | (refine Fr.set ?_ (by first | exact Nat.le_refl _ | omega | (simp; done) | (simp; omega)) (by first | (simp; done) | (simp; omega)) _))); done)))
  clear hK K
  (try simp only [Act.put, List.setIfInBounds_toArray, List.set_cons_zero, List.set_cons_succ])
  refine Tw_takeL (i := 16) (v := ?tv15) rfl (by kernel_rfl) (by decide) (by kernel_rfl) (by kernel_rfl) (fun _ _ _ h => h) (by rfl) ?ty15 ?tn15
  case ty15 => (intro w hSw; (try dsimp only at hSw); go_simp <;> with_reducible rfl)
  (try simp only [Act.put, List.setIfInBounds_toArray, List.set_cons_zero, List.set_cons_succ])
  refine Tw_end (by kernel_rfl) (fun hh => ?_)
  obtain ⟨F11, _⟩ := hh
  clear HALL hq
  have F6 := Lib.hid F11
  clear F11
  have h0 := F6.out.at2.cell 0
  have h1 := F6.out.at2.cell 1
  have h2 := F6.out.at2.cell 2
  have h3 := F6.out.at2.cell 3
  have h4 := F6.out.at2.cell 4
  have h5 := F6.out.at2.cell 5
  have h6 := F6.out.at2.cell 6
  have h7 := F6.out.at2.cell 7
  have h8 := F6.out.at2.cell 8
  have h9 := F6.out.at2.cell 9
  have h10 := F6.out.at2.cell 10
  have h11 := F6.out.at2.cell 11
  go_wp2_with fail
  refine (HOE.out _).mono ?_
  rintro e w8 ⟨rfl, hb8⟩
  have G8 := F6.out.call hb8
  clear hb8 F6 h0 h1 h2 h3 h4 h5 h6 h7 h8 h9 h10 h11
  have h0 := G8.at2.cell 0
  have h1 := G8.at2.cell 1
  have h2 := G8.at2.cell 2
  have h3 := G8.at2.cell 3
  have h4 := G8.at2.cell 4
  have h5 := G8.at2.cell 5
  have h6 := G8.at2.cell 6
  have h7 := G8.at2.cell 7
  have h8 := G8.at2.cell 8
  have h9 := G8.at2.cell 9
  have h10 := G8.at2.cell 10
  have h11 := G8.at2.cell 11
  have z1 := G8.at2.lt
  have n1 := G8.top.lt
  have n2 := G8.at1.lt
  have n3 := G8.at2.lt
  have n4 := G8.at3.lt
  have n5 : w.heap.size ≤ w8.heap.size := G8.size
  have F9 : Hid (Fr w _ [(w8.heap.size, 22, #[.int .i64 0, .int .i64 0, .int .i64 0, .int .i64 0, .int .i64 0, .int .i64 0]), (w5.heap.size, 22, #[.int .i64 (v 0), .int .i64 (v 1), .int .i64 (v 2), .int .i64 (v 3), .int .i64 (v 4), .int .i64 (v 5)]), (w2.heap.size, 25, #[.int .i64 (A 0).a, .int .i64 (A 0).b, .int .i64 (A 1).a, .int .i64 (A 1).b, .int .i64 (A 2).a, .int .i64 (A 2).b, .int .i64 (A 3).a, .int .i64 (A 3).b, .int .i64 (A 4).a, .int .i64 (A 4).b, .int .i64 (A 5).a, .int .i64 (A 5).b]), (w.heap.size + 1, 25, #[.int .i64 (h 0).a, .int .i64 (h 0).b, .int .i64 (h 1).a, .int .i64 (h 1).b, .int .i64 (h 2).a, .int .i64 (h 2).b, .int .i64 (h 3).a, .int .i64 (h 3).b, .int .i64 (h 4).a, .int .i64 (h 4).b, .int .i64 (h 5).a, .int .i64 (h 5).b]), (w.heap.size, 22, #[.int .i64 (x 0), .int .i64 (x 1), .int .i64 (x 2), .int .i64 (x 3), .int .i64 (x 4), .int .i64 (x 5)])]) := Lib.hid (G8.box 22 #[.int .i64 0, .int .i64 0, .int .i64 0, .int .i64 0, .int .i64 0, .int .i64 0])
  clear G8
  go_wp2_with fail
  refine (HRS.out _).mono ?_
  rintro e w9 ⟨rfl, hb9⟩
  have F10 := Lib.hid (F9.out.call hb9)
  clear hb9 F9 z1 h0 h1 h2 h3 h4 h5 h6 h7 h8 h9 h10 h11
  have r0 := F10.out.top.cell 0
  have r1 := F10.out.top.cell 1
  have r2 := F10.out.top.cell 2
  have r3 := F10.out.top.cell 3
  have r4 := F10.out.top.cell 4
  have r5 := F10.out.top.cell 5
  have g0 := F10.out.top.frozen 0
  have g1 := F10.out.top.frozen 1
  have g2 := F10.out.top.frozen 2
  have g3 := F10.out.top.frozen 3
  have g4 := F10.out.top.frozen 4
  have g5 := F10.out.top.frozen 5
  go_upto_region 16 with fail
  refine wp_abs ?_
  intro wz hwz
  have F11 : Hid (Fr w wz [(w8.heap.size, 22, #[.int .i64 (v 0), .int .i64 (v 1), .int .i64 (v 2), .int .i64 (v 3), .int .i64 (v 4), .int .i64 (v 5)]), (w5.heap.size, 22, #[.int .i64 (v 0), .int .i64 (v 1), .int .i64 (v 2), .int .i64 (v 3), .int .i64 (v 4), .int .i64 (v 5)]), (w2.heap.size, 25, #[.int .i64 (A 0).a, .int .i64 (A 0).b, .int .i64 (A 1).a, .int .i64 (A 1).b, .int .i64 (A 2).a, .int .i64 (A 2).b, .int .i64 (A 3).a, .int .i64 (A 3).b, .int .i64 (A 4).a, .int .i64 (A 4).b, .int .i64 (A 5).a, .int .i64 (A 5).b]), (w.heap.size + 1, 25, #[.int .i64 (h 0).a, .int .i64 (h 0).b, .int .i64 (h 1).a, .int .i64 (h 1).b, .int .i64 (h 2).a, .int .i64 (h 2).b, .int .i64 (h 3).a, .int .i64 (h 3).b, .int .i64 (h 4).a, .int .i64 (h 4).b, .int .i64 (h 5).a, .int .i64 (h 5).b]), (w.heap.size, 22, #[.int .i64 (x 0), .int .i64 (x 1), .int .i64 (x 2), .int .i64 (x 3), .int .i64 (x 4), .int .i64 (x 5)])]) := Lib.hid (by rw [← hwz]; exact F10.out.put6 (by omega) (by simp; omega))
  clear hwz F10 r0 r1 r2 r3 r4 r5 g0 g1 g2 g3 g4 g5
  have y0 := F11.out.at1.cell 0
  have y1 := F11.out.at1.cell 1
  have y2 := F11.out.at1.cell 2
  have y3 := F11.out.at1.cell 3
  have y4 := F11.out.at1.cell 4
  have y5 := F11.out.at1.cell 5
  have t0 := F11.out.top.cell 0
  have t1 := F11.out.top.cell 1
  have t2 := F11.out.top.cell 2
  have t3 := F11.out.top.cell 3
  have t4 := F11.out.top.cell 4
  have t5 := F11.out.top.cell 5
  have hq := eqA6_same v
  go_wp2_with fail
  go_ret
  exact ⟨rfl, F11.out.bl⟩

set_option maxHeartbeats 8000000 in
set_option maxRecDepth 100000 in
theorem ord_ok_bad (x : Nat → Int) (h : Nat → T3) (A : Nat → T3) (en : Int) (HS : Hid (∀ w, Calls Tryd.prog 13 #[.agg #[.int .i64 (x 0), .int .i64 (x 1), .int .i64 (x 2), .int .i64 (x 3), .int .i64 (x 4), .int .i64 (x 5)]] w fun e w' => e = .returned (.int .i64 0) ∧ Below w.heap.size w w')) (HOR : Hid (∀ w, Calls Tryd.prog 10 #[.agg #[.int .i64 (x 0), .int .i64 (x 1), .int .i64 (x 2), .int .i64 (x 3), .int .i64 (x 4), .int .i64 (x 5)]] w fun e w' => e = .returned (.tuple #[.agg #[.int .i64 (A 0).a, .int .i64 (A 0).b, .int .i64 (A 1).a, .int .i64 (A 1).b, .int .i64 (A 2).a, .int .i64 (A 2).b, .int .i64 (A 3).a, .int .i64 (A 3).b, .int .i64 (A 4).a, .int .i64 (A 4).b, .int .i64 (A 5).a, .int .i64 (A 5).b], .int .i64 0]) ∧ Below w.heap.size w w')) (HEN : Hid (∀ w, Calls Tryd.prog 11 #[.agg #[.int .i64 (x 0), .int .i64 (x 1), .int .i64 (x 2), .int .i64 (x 3), .int .i64 (x 4), .int .i64 (x 5)]] w fun e w' => e = .returned (.tuple #[.int .i64 en, .int .i64 0]) ∧ Below w.heap.size w w')) (HSA : Hid (∀ w, Calls Tryd.prog 12 #[.agg #[.int .i64 (h 0).a, .int .i64 (h 0).b, .int .i64 (h 1).a, .int .i64 (h 1).b, .int .i64 (h 2).a, .int .i64 (h 2).b, .int .i64 (h 3).a, .int .i64 (h 3).b, .int .i64 (h 4).a, .int .i64 (h 4).b, .int .i64 (h 5).a, .int .i64 (h 5).b]] w fun e w' => e = .returned (.tuple #[.agg #[.int .i64 0, .int .i64 0, .int .i64 0, .int .i64 0, .int .i64 0, .int .i64 0], .int .i64 2]) ∧ Below w.heap.size w w')) (HOE : Hid (∀ w, Calls Tryd.prog 16 #[.agg #[.int .i64 (h 0).a, .int .i64 (h 0).b, .int .i64 (h 1).a, .int .i64 (h 1).b, .int .i64 (h 2).a, .int .i64 (h 2).b, .int .i64 (h 3).a, .int .i64 (h 3).b, .int .i64 (h 4).a, .int .i64 (h 4).b, .int .i64 (h 5).a, .int .i64 (h 5).b]] w fun e w' => e = .returned (.int .i64 2) ∧ Below w.heap.size w w')) (HRO : Hid (∀ w, Calls Tryd.prog 14 #[.agg #[.int .i64 (x 0), .int .i64 (x 1), .int .i64 (x 2), .int .i64 (x 3), .int .i64 (x 4), .int .i64 (x 5)]] w fun e w' => e = .returned (.agg #[.int .i64 (A 0).a, .int .i64 (A 0).b, .int .i64 (A 1).a, .int .i64 (A 1).b, .int .i64 (A 2).a, .int .i64 (A 2).b, .int .i64 (A 3).a, .int .i64 (A 3).b, .int .i64 (A 4).a, .int .i64 (A 4).b, .int .i64 (A 5).a, .int .i64 (A 5).b]) ∧ Below w.heap.size w w')) (HRE : Hid (∀ w, Calls Tryd.prog 15 #[.agg #[.int .i64 (x 0), .int .i64 (x 1), .int .i64 (x 2), .int .i64 (x 3), .int .i64 (x 4), .int .i64 (x 5)]] w fun e w' => e = .returned (.int .i64 en) ∧ Below w.heap.size w w')) (w : World) (hT : Tab w) : Calls Tryd.prog 3 #[.agg #[.int .i64 (x 0), .int .i64 (x 1), .int .i64 (x 2), .int .i64 (x 3), .int .i64 (x 4), .int .i64 (x 5)], .agg #[.int .i64 (h 0).a, .int .i64 (h 0).b, .int .i64 (h 1).a, .int .i64 (h 1).b, .int .i64 (h 2).a, .int .i64 (h 2).b, .int .i64 (h 3).a, .int .i64 (h 3).b, .int .i64 (h 4).a, .int .i64 (h 4).b, .int .i64 (h 5).a, .int .i64 (h 5).b]] w fun e w' => e = .returned (.bool true) ∧ Below w.heap.size w w' := by
  have F0 := Lib.hid (Fr.b2 w 22 #[.int .i64 (x 0), .int .i64 (x 1), .int .i64 (x 2), .int .i64 (x 3), .int .i64 (x 4), .int .i64 (x 5)] 25 #[.int .i64 (h 0).a, .int .i64 (h 0).b, .int .i64 (h 1).a, .int .i64 (h 1).b, .int .i64 (h 2).a, .int .i64 (h 2).b, .int .i64 (h 3).a, .int .i64 (h 3).b, .int .i64 (h 4).a, .int .i64 (h 4).b, .int .i64 (h 5).a, .int .i64 (h 5).b])
  have T0 := Lib.hid ((hT.new (.cells #[.int .i64 (x 0), .int .i64 (x 1), .int .i64 (x 2), .int .i64 (x 3), .int .i64 (x 4), .int .i64 (x 5)] 22)).new (.cells #[.int .i64 (h 0).a, .int .i64 (h 0).b, .int .i64 (h 1).a, .int .i64 (h 1).b, .int .i64 (h 2).a, .int .i64 (h 2).b, .int .i64 (h 3).a, .int .i64 (h 3).b, .int .i64 (h 4).a, .int .i64 (h 4).b, .int .i64 (h 5).a, .int .i64 (h 5).b] 25))
  clear hT
  go_enter Tryd.func3, Tryd.ntmps3
  go_wp2_with fail
  refine (awake_any _ T0.out).mono ?_
  rintro e w1 ⟨rfl, hb1⟩
  have F1 := Lib.hid (F0.out.call hb1)
  clear hb1 F0
  have x0 := F1.out.at1.cell 0
  have x1 := F1.out.at1.cell 1
  have x2 := F1.out.at1.cell 2
  have x3 := F1.out.at1.cell 3
  have x4 := F1.out.at1.cell 4
  have x5 := F1.out.at1.cell 5
  go_wp2_with fail
  refine (HOR.out _).mono ?_
  rintro e w2 ⟨rfl, hb2⟩
  have G2 := F1.out.call hb2
  clear hb2 F1 x0 x1 x2 x3 x4 x5
  have x0 := G2.at1.cell 0
  have x1 := G2.at1.cell 1
  have x2 := G2.at1.cell 2
  have x3 := G2.at1.cell 3
  have x4 := G2.at1.cell 4
  have x5 := G2.at1.cell 5
  have z1 := G2.top.lt
  have z2 := G2.at1.lt
  have F3 : Hid (Fr w _ [(w2.heap.size, 25, #[.int .i64 (A 0).a, .int .i64 (A 0).b, .int .i64 (A 1).a, .int .i64 (A 1).b, .int .i64 (A 2).a, .int .i64 (A 2).b, .int .i64 (A 3).a, .int .i64 (A 3).b, .int .i64 (A 4).a, .int .i64 (A 4).b, .int .i64 (A 5).a, .int .i64 (A 5).b]), (w.heap.size + 1, 25, #[.int .i64 (h 0).a, .int .i64 (h 0).b, .int .i64 (h 1).a, .int .i64 (h 1).b, .int .i64 (h 2).a, .int .i64 (h 2).b, .int .i64 (h 3).a, .int .i64 (h 3).b, .int .i64 (h 4).a, .int .i64 (h 4).b, .int .i64 (h 5).a, .int .i64 (h 5).b]), (w.heap.size, 22, #[.int .i64 (x 0), .int .i64 (x 1), .int .i64 (x 2), .int .i64 (x 3), .int .i64 (x 4), .int .i64 (x 5)])]) := Lib.hid (G2.box 25 #[.int .i64 (A 0).a, .int .i64 (A 0).b, .int .i64 (A 1).a, .int .i64 (A 1).b, .int .i64 (A 2).a, .int .i64 (A 2).b, .int .i64 (A 3).a, .int .i64 (A 3).b, .int .i64 (A 4).a, .int .i64 (A 4).b, .int .i64 (A 5).a, .int .i64 (A 5).b])
  clear G2
  go_wp2_with fail
  refine (HEN.out _).mono ?_
  rintro e w4 ⟨rfl, hb4⟩
  have F4 := Lib.hid (F3.out.call hb4)
  clear hb4 F3 z1 z2 x0 x1 x2 x3 x4 x5
  have h0 := F4.out.at1.cell 0
  have h1 := F4.out.at1.cell 1
  have h2 := F4.out.at1.cell 2
  have h3 := F4.out.at1.cell 3
  have h4 := F4.out.at1.cell 4
  have h5 := F4.out.at1.cell 5
  have h6 := F4.out.at1.cell 6
  have h7 := F4.out.at1.cell 7
  have h8 := F4.out.at1.cell 8
  have h9 := F4.out.at1.cell 9
  have h10 := F4.out.at1.cell 10
  have h11 := F4.out.at1.cell 11
  go_wp2_with fail
  refine (HSA.out _).mono ?_
  rintro e w5 ⟨rfl, hb5⟩
  have G5 := F4.out.call hb5
  clear hb5 F4 h0 h1 h2 h3 h4 h5 h6 h7 h8 h9 h10 h11
  have x0 := G5.at2.cell 0
  have x1 := G5.at2.cell 1
  have x2 := G5.at2.cell 2
  have x3 := G5.at2.cell 3
  have x4 := G5.at2.cell 4
  have x5 := G5.at2.cell 5
  have z1 := G5.top.lt
  have z2 := G5.at1.lt
  have z3 := G5.at2.lt
  have F5 : Hid (Fr w _ [(w5.heap.size, 22, #[.int .i64 0, .int .i64 0, .int .i64 0, .int .i64 0, .int .i64 0, .int .i64 0]), (w2.heap.size, 25, #[.int .i64 (A 0).a, .int .i64 (A 0).b, .int .i64 (A 1).a, .int .i64 (A 1).b, .int .i64 (A 2).a, .int .i64 (A 2).b, .int .i64 (A 3).a, .int .i64 (A 3).b, .int .i64 (A 4).a, .int .i64 (A 4).b, .int .i64 (A 5).a, .int .i64 (A 5).b]), (w.heap.size + 1, 25, #[.int .i64 (h 0).a, .int .i64 (h 0).b, .int .i64 (h 1).a, .int .i64 (h 1).b, .int .i64 (h 2).a, .int .i64 (h 2).b, .int .i64 (h 3).a, .int .i64 (h 3).b, .int .i64 (h 4).a, .int .i64 (h 4).b, .int .i64 (h 5).a, .int .i64 (h 5).b]), (w.heap.size, 22, #[.int .i64 (x 0), .int .i64 (x 1), .int .i64 (x 2), .int .i64 (x 3), .int .i64 (x 4), .int .i64 (x 5)])]) := Lib.hid (G5.box 22 #[.int .i64 0, .int .i64 0, .int .i64 0, .int .i64 0, .int .i64 0, .int .i64 0])
  clear G5
  go_wp2_with fail
  refine (HS.out _).mono ?_
  rintro e w6 ⟨rfl, hb6⟩
  have F6 := Lib.hid (F5.out.call hb6)
  clear hb6 F5 z1 z2 z3 x0 x1 x2 x3 x4 x5
  go_upto_region 10 with fail
  have F8 : Fr w _ [(w5.heap.size, 22, #[.int .i64 0, .int .i64 0, .int .i64 0, .int .i64 0, .int .i64 0, .int .i64 0]), (w2.heap.size, 25, #[.int .i64 (A 0).a, .int .i64 (A 0).b, .int .i64 (A 1).a, .int .i64 (A 1).b, .int .i64 (A 2).a, .int .i64 (A 2).b, .int .i64 (A 3).a, .int .i64 (A 3).b, .int .i64 (A 4).a, .int .i64 (A 4).b, .int .i64 (A 5).a, .int .i64 (A 5).b]), (w.heap.size + 1, 25, #[.int .i64 (h 0).a, .int .i64 (h 0).b, .int .i64 (h 1).a, .int .i64 (h 1).b, .int .i64 (h 2).a, .int .i64 (h 2).b, .int .i64 (h 3).a, .int .i64 (h 3).b, .int .i64 (h 4).a, .int .i64 (h 4).b, .int .i64 (h 5).a, .int .i64 (h 5).b]), (w.heap.size, 22, #[.int .i64 (x 0), .int .i64 (x 1), .int .i64 (x 2), .int .i64 (x 3), .int .i64 (x 4), .int .i64 (x 5)])] := F6.out
  have HALL : Hid (∀ W, Fr w W [(w5.heap.size, 22, #[.int .i64 0, .int .i64 0, .int .i64 0, .int .i64 0, .int .i64 0, .int .i64 0]), (w2.heap.size, 25, #[.int .i64 (A 0).a, .int .i64 (A 0).b, .int .i64 (A 1).a, .int .i64 (A 1).b, .int .i64 (A 2).a, .int .i64 (A 2).b, .int .i64 (A 3).a, .int .i64 (A 3).b, .int .i64 (A 4).a, .int .i64 (A 4).b, .int .i64 (A 5).a, .int .i64 (A 5).b]), (w.heap.size + 1, 25, #[.int .i64 (h 0).a, .int .i64 (h 0).b, .int .i64 (h 1).a, .int .i64 (h 1).b, .int .i64 (h 2).a, .int .i64 (h 2).b, .int .i64 (h 3).a, .int .i64 (h 3).b, .int .i64 (h 4).a, .int .i64 (h 4).b, .int .i64 (h 5).a, .int .i64 (h 5).b]), (w.heap.size, 22, #[.int .i64 (x 0), .int .i64 (x 1), .int .i64 (x 2), .int .i64 (x 3), .int .i64 (x 4), .int .i64 (x 5)])] → Fr w W [(w5.heap.size, 22, #[.int .i64 0, .int .i64 0, .int .i64 0, .int .i64 0, .int .i64 0, .int .i64 0]), (w2.heap.size, 25, #[.int .i64 (A 0).a, .int .i64 (A 0).b, .int .i64 (A 1).a, .int .i64 (A 1).b, .int .i64 (A 2).a, .int .i64 (A 2).b, .int .i64 (A 3).a, .int .i64 (A 3).b, .int .i64 (A 4).a, .int .i64 (A 4).b, .int .i64 (A 5).a, .int .i64 (A 5).b]), (w.heap.size + 1, 25, #[.int .i64 (h 0).a, .int .i64 (h 0).b, .int .i64 (h 1).a, .int .i64 (h 1).b, .int .i64 (h 2).a, .int .i64 (h 2).b, .int .i64 (h 3).a, .int .i64 (h 3).b, .int .i64 (h 4).a, .int .i64 (h 4).b, .int .i64 (h 5).a, .int .i64 (h 5).b]), (w.heap.size, 22, #[.int .i64 (x 0), .int .i64 (x 1), .int .i64 (x 2), .int .i64 (x 3), .int .i64 (x 4), .int .i64 (x 5)])] ∧ W.cell? ⟨w2.heap.size, 0, none⟩ = some (.int .i64 (A 0).a) ∧ W.cell? ⟨w2.heap.size, 1, none⟩ = some (.int .i64 (A 0).b) ∧ W.cell? ⟨w2.heap.size, 2, none⟩ = some (.int .i64 (A 1).a) ∧ W.cell? ⟨w2.heap.size, 3, none⟩ = some (.int .i64 (A 1).b) ∧ W.cell? ⟨w2.heap.size, 4, none⟩ = some (.int .i64 (A 2).a) ∧ W.cell? ⟨w2.heap.size, 5, none⟩ = some (.int .i64 (A 2).b) ∧ W.cell? ⟨w2.heap.size, 6, none⟩ = some (.int .i64 (A 3).a) ∧ W.cell? ⟨w2.heap.size, 7, none⟩ = some (.int .i64 (A 3).b) ∧ W.cell? ⟨w2.heap.size, 8, none⟩ = some (.int .i64 (A 4).a) ∧ W.cell? ⟨w2.heap.size, 9, none⟩ = some (.int .i64 (A 4).b) ∧ W.cell? ⟨w2.heap.size, 10, none⟩ = some (.int .i64 (A 5).a) ∧ W.cell? ⟨w2.heap.size, 11, none⟩ = some (.int .i64 (A 5).b) ∧ W.cell? ⟨w.heap.size, 0, none⟩ = some (.int .i64 (x 0)) ∧ W.cell? ⟨w.heap.size, 1, none⟩ = some (.int .i64 (x 1)) ∧ W.cell? ⟨w.heap.size, 2, none⟩ = some (.int .i64 (x 2)) ∧ W.cell? ⟨w.heap.size, 3, none⟩ = some (.int .i64 (x 3)) ∧ W.cell? ⟨w.heap.size, 4, none⟩ = some (.int .i64 (x 4)) ∧ W.cell? ⟨w.heap.size, 5, none⟩ = some (.int .i64 (x 5))) := Lib.hid (fun W hW => ⟨hW, hW.at1.cell 0, hW.at1.cell 1, hW.at1.cell 2, hW.at1.cell 3, hW.at1.cell 4, hW.at1.cell 5, hW.at1.cell 6, hW.at1.cell 7, hW.at1.cell 8, hW.at1.cell 9, hW.at1.cell 10, hW.at1.cell 11, hW.at3.cell 0, hW.at3.cell 1, hW.at3.cell 2, hW.at3.cell 3, hW.at3.cell 4, hW.at3.cell 5⟩)
  have hq := eqT6_same A
  clear F6
  refine Tw_start 17 (fun W => Fr w W [(w5.heap.size, 22, #[.int .i64 0, .int .i64 0, .int .i64 0, .int .i64 0, .int .i64 0, .int .i64 0]), (w2.heap.size, 25, #[.int .i64 (A 0).a, .int .i64 (A 0).b, .int .i64 (A 1).a, .int .i64 (A 1).b, .int .i64 (A 2).a, .int .i64 (A 2).b, .int .i64 (A 3).a, .int .i64 (A 3).b, .int .i64 (A 4).a, .int .i64 (A 4).b, .int .i64 (A 5).a, .int .i64 (A 5).b]), (w.heap.size + 1, 25, #[.int .i64 (h 0).a, .int .i64 (h 0).b, .int .i64 (h 1).a, .int .i64 (h 1).b, .int .i64 (h 2).a, .int .i64 (h 2).b, .int .i64 (h 3).a, .int .i64 (h 3).b, .int .i64 (h 4).a, .int .i64 (h 4).b, .int .i64 (h 5).a, .int .i64 (h 5).b]), (w.heap.size, 22, #[.int .i64 (x 0), .int .i64 (x 1), .int .i64 (x 2), .int .i64 (x 3), .int .i64 (x 4), .int .i64 (x 5)])] ∧ W.cell? ⟨w2.heap.size, 0, none⟩ = some (.int .i64 (A 0).a) ∧ W.cell? ⟨w2.heap.size, 1, none⟩ = some (.int .i64 (A 0).b) ∧ W.cell? ⟨w2.heap.size, 2, none⟩ = some (.int .i64 (A 1).a) ∧ W.cell? ⟨w2.heap.size, 3, none⟩ = some (.int .i64 (A 1).b) ∧ W.cell? ⟨w2.heap.size, 4, none⟩ = some (.int .i64 (A 2).a) ∧ W.cell? ⟨w2.heap.size, 5, none⟩ = some (.int .i64 (A 2).b) ∧ W.cell? ⟨w2.heap.size, 6, none⟩ = some (.int .i64 (A 3).a) ∧ W.cell? ⟨w2.heap.size, 7, none⟩ = some (.int .i64 (A 3).b) ∧ W.cell? ⟨w2.heap.size, 8, none⟩ = some (.int .i64 (A 4).a) ∧ W.cell? ⟨w2.heap.size, 9, none⟩ = some (.int .i64 (A 4).b) ∧ W.cell? ⟨w2.heap.size, 10, none⟩ = some (.int .i64 (A 5).a) ∧ W.cell? ⟨w2.heap.size, 11, none⟩ = some (.int .i64 (A 5).b) ∧ W.cell? ⟨w.heap.size, 0, none⟩ = some (.int .i64 (x 0)) ∧ W.cell? ⟨w.heap.size, 1, none⟩ = some (.int .i64 (x 1)) ∧ W.cell? ⟨w.heap.size, 2, none⟩ = some (.int .i64 (x 2)) ∧ W.cell? ⟨w.heap.size, 3, none⟩ = some (.int .i64 (x 3)) ∧ W.cell? ⟨w.heap.size, 4, none⟩ = some (.int .i64 (x 4)) ∧ W.cell? ⟨w.heap.size, 5, none⟩ = some (.int .i64 (x 5))) (by kernel_rfl) (by kernel_rfl) rfl ?_ ?_
  · (try dsimp only)
    ((go_split_ands; refine HALL.out _ ?_; (first | assumption | (repeat (first | assumption | refine Fr.new ?_ _ | refine Fr.drew ?_ | (refine Fr.set ?_ (by first | exact Nat.le_refl _ | omega | (simp; done) | (simp; omega)) (by first | (simp; done) | (simp; omega)) _))); done)))
  refine Tw_takeL (i := 0) (v := ?tv16) rfl (by kernel_rfl) (by decide) (by kernel_rfl) (by kernel_rfl) (fun _ _ _ h => h) (by rfl) ?ty16 ?tn16
  case ty16 => (intro w hSw; (try dsimp only at hSw); go_simp <;> with_reducible rfl)
  (try simp only [Act.put, List.setIfInBounds_toArray, List.set_cons_zero, List.set_cons_succ])
  refine Tw_takeL (i := 1) (v := ?tv17) rfl (by kernel_rfl) (by decide) (by kernel_rfl) (by kernel_rfl) (fun _ _ _ h => h) (by rfl) ?ty17 ?tn17
  case ty17 => (intro w hSw; (try dsimp only at hSw); go_simp <;> with_reducible rfl)
  (try simp only [Act.put, List.setIfInBounds_toArray, List.set_cons_zero, List.set_cons_succ])
  refine Tw_takeL (i := 2) (v := ?tv18) rfl (by kernel_rfl) (by decide) (by kernel_rfl) (by kernel_rfl) (fun _ _ _ h => h) (by rfl) ?ty18 ?tn18
  case ty18 => (intro w hSw; (try dsimp only at hSw); go_simp <;> with_reducible rfl)
  (try simp only [Act.put, List.setIfInBounds_toArray, List.set_cons_zero, List.set_cons_succ])
  refine Tw_takeL (i := 3) (v := ?tv19) rfl (by kernel_rfl) (by decide) (by kernel_rfl) (by kernel_rfl) (fun _ _ _ h => h) (by rfl) ?ty19 ?tn19
  case ty19 => (intro w hSw; (try dsimp only at hSw); go_simp <;> with_reducible rfl)
  (try simp only [Act.put, List.setIfInBounds_toArray, List.set_cons_zero, List.set_cons_succ])
  refine Tw_takeL (i := 4) (v := ?tv20) rfl (by kernel_rfl) (by decide) (by kernel_rfl) (by kernel_rfl) (fun _ _ _ h => h) (by rfl) ?ty20 ?tn20
  case ty20 => (intro w hSw; (try dsimp only at hSw); go_simp <;> with_reducible rfl)
  (try simp only [Act.put, List.setIfInBounds_toArray, List.set_cons_zero, List.set_cons_succ])
  refine Tw_all (rs := [5]) (by kernel_rfl) (by simp) (by decide) (fun hHeld => ?_)
  refine AllT.consL rfl (fun K hK => ?_) AllT.nil
  go_simp
  (go_at_call 14; go_split_ands; (with_reducible refine (HRO.out _).mono ?_); rintro e w7 ⟨rfl, hb7⟩; have F4 := Fr.call (by assumption) hb7; clear hb7)
  refine hK.out _ _ ?_ ?_
  · (try dsimp only)
    ((go_split_ands; refine HALL.out _ ?_; (first | assumption | (repeat (first | assumption | refine Fr.new ?_ _ | refine Fr.drew ?_ | (refine Fr.set ?_ (by first | exact Nat.le_refl _ | omega | (simp; done) | (simp; omega)) (by first | (simp; done) | (simp; omega)) _))); done)))
  clear hK K
  (try simp only [Act.put, List.setIfInBounds_toArray, List.set_cons_zero, List.set_cons_succ])
  refine Tw_takeL (i := 6) (v := ?tv21) rfl (by kernel_rfl) (by decide) (by kernel_rfl) (by kernel_rfl) (fun _ _ _ h => h) (by rfl) ?ty21 ?tn21
  case ty21 => (intro w hSw; (try dsimp only at hSw); go_simp <;> with_reducible rfl)
  (try simp only [Act.put, List.setIfInBounds_toArray, List.set_cons_zero, List.set_cons_succ])
  refine Tw_takeL (i := 7) (v := ?tv22) rfl (by kernel_rfl) (by decide) (by kernel_rfl) (by kernel_rfl) (fun _ _ _ h => h) (by rfl) ?ty22 ?tn22
  case ty22 => (intro w hSw; (try dsimp only at hSw); go_simp <;> with_reducible rfl)
  (try simp only [Act.put, List.setIfInBounds_toArray, List.set_cons_zero, List.set_cons_succ])
  refine Tw_takeL (i := 8) (v := ?tv23) rfl (by kernel_rfl) (by decide) (by kernel_rfl) (by kernel_rfl) (fun _ _ _ h => h) (by rfl) ?ty23 ?tn23
  case ty23 => (intro w hSw; (try dsimp only at hSw); go_simp <;> with_reducible rfl)
  (try simp only [Act.put, List.setIfInBounds_toArray, List.set_cons_zero, List.set_cons_succ])
  refine Tw_takeL (i := 9) (v := ?tv24) rfl (by kernel_rfl) (by decide) (by kernel_rfl) (by kernel_rfl) (fun _ _ _ h => h) (by rfl) ?ty24 ?tn24
  case ty24 => (intro w hSw; (try dsimp only at hSw); go_simp <;> with_reducible rfl)
  (try simp only [Act.put, List.setIfInBounds_toArray, List.set_cons_zero, List.set_cons_succ])
  refine Tw_takeL (i := 10) (v := ?tv25) rfl (by kernel_rfl) (by decide) (by kernel_rfl) (by kernel_rfl) (fun _ _ _ h => h) (by rfl) ?ty25 ?tn25
  case ty25 => (intro w hSw; (try dsimp only at hSw); go_simp <;> with_reducible rfl)
  (try simp only [Act.put, List.setIfInBounds_toArray, List.set_cons_zero, List.set_cons_succ])
  refine Tw_takeL (i := 11) (v := ?tv26) rfl (by kernel_rfl) (by decide) (by kernel_rfl) (by kernel_rfl) (fun _ _ _ h => h) (by rfl) ?ty26 ?tn26
  case ty26 => (intro w hSw; (try dsimp only at hSw); go_simp <;> with_reducible rfl)
  (try simp only [Act.put, List.setIfInBounds_toArray, List.set_cons_zero, List.set_cons_succ])
  refine Tw_takeL (i := 12) (v := ?tv27) rfl (by kernel_rfl) (by decide) (by kernel_rfl) (by kernel_rfl) (fun _ _ _ h => h) (by rfl) ?ty27 ?tn27
  case ty27 => (intro w hSw; (try dsimp only at hSw); go_simp <;> with_reducible rfl)
  (try simp only [Act.put, List.setIfInBounds_toArray, List.set_cons_zero, List.set_cons_succ])
  refine Tw_takeL (i := 13) (v := ?tv28) rfl (by kernel_rfl) (by decide) (by kernel_rfl) (by kernel_rfl) (fun _ _ _ h => h) (by rfl) ?ty28 ?tn28
  case ty28 => (intro w hSw; (try dsimp only at hSw); go_simp <;> with_reducible rfl)
  (try simp only [Act.put, List.setIfInBounds_toArray, List.set_cons_zero, List.set_cons_succ])
  refine Tw_takeL (i := 14) (v := ?tv29) rfl (by kernel_rfl) (by decide) (by kernel_rfl) (by kernel_rfl) (fun _ _ _ h => h) (by rfl) ?ty29 ?tn29
  case ty29 => (intro w hSw; (try dsimp only at hSw); go_simp <;> with_reducible rfl)
  (try simp only [Act.put, List.setIfInBounds_toArray, List.set_cons_zero, List.set_cons_succ])
  refine Tw_all (rs := [15]) (by kernel_rfl) (by simp) (by decide) (fun hHeld => ?_)
  refine AllT.consL rfl (fun K hK => ?_) AllT.nil
  go_simp
  (go_at_call 15; go_split_ands; (with_reducible refine (HRE.out _).mono ?_); rintro e w7 ⟨rfl, hb7⟩; have F4 := Fr.call (by assumption) hb7; clear hb7)
  refine hK.out _ _ ?_ ?_
  · (try dsimp only)
    ((go_split_ands; refine HALL.out _ ?_; (first | assumption | (repeat (first | assumption | refine Fr.new ?_ _ | refine Fr.drew ?_ | (refine Fr.set ?_ (by first | exact Nat.le_refl _ | omega | (simp; done) | (simp; omega)) (by first | (simp; done) | (simp; omega)) _))); done)))
  clear hK K
  (try simp only [Act.put, List.setIfInBounds_toArray, List.set_cons_zero, List.set_cons_succ])
  refine Tw_takeL (i := 16) (v := ?tv30) rfl (by kernel_rfl) (by decide) (by kernel_rfl) (by kernel_rfl) (fun _ _ _ h => h) (by rfl) ?ty30 ?tn30
  case ty30 => (intro w hSw; (try dsimp only at hSw); go_simp <;> with_reducible rfl)
  (try simp only [Act.put, List.setIfInBounds_toArray, List.set_cons_zero, List.set_cons_succ])
  refine Tw_end (by kernel_rfl) (fun hh => ?_)
  obtain ⟨F11, _⟩ := hh
  clear HALL hq
  have F6 := Lib.hid F11
  clear F11
  have h0 := F6.out.at2.cell 0
  have h1 := F6.out.at2.cell 1
  have h2 := F6.out.at2.cell 2
  have h3 := F6.out.at2.cell 3
  have h4 := F6.out.at2.cell 4
  have h5 := F6.out.at2.cell 5
  have h6 := F6.out.at2.cell 6
  have h7 := F6.out.at2.cell 7
  have h8 := F6.out.at2.cell 8
  have h9 := F6.out.at2.cell 9
  have h10 := F6.out.at2.cell 10
  have h11 := F6.out.at2.cell 11
  go_wp2_with fail
  refine (HOE.out _).mono ?_
  rintro e w8 ⟨rfl, hb8⟩
  have G8 := F6.out.call hb8
  clear hb8 F6 h0 h1 h2 h3 h4 h5 h6 h7 h8 h9 h10 h11
  have z1 := G8.top.lt
  have F9 : Hid (Fr w _ [(w8.heap.size, 22, #[.int .i64 0, .int .i64 0, .int .i64 0, .int .i64 0, .int .i64 0, .int .i64 0]), (w5.heap.size, 22, #[.int .i64 0, .int .i64 0, .int .i64 0, .int .i64 0, .int .i64 0, .int .i64 0]), (w2.heap.size, 25, #[.int .i64 (A 0).a, .int .i64 (A 0).b, .int .i64 (A 1).a, .int .i64 (A 1).b, .int .i64 (A 2).a, .int .i64 (A 2).b, .int .i64 (A 3).a, .int .i64 (A 3).b, .int .i64 (A 4).a, .int .i64 (A 4).b, .int .i64 (A 5).a, .int .i64 (A 5).b]), (w.heap.size + 1, 25, #[.int .i64 (h 0).a, .int .i64 (h 0).b, .int .i64 (h 1).a, .int .i64 (h 1).b, .int .i64 (h 2).a, .int .i64 (h 2).b, .int .i64 (h 3).a, .int .i64 (h 3).b, .int .i64 (h 4).a, .int .i64 (h 4).b, .int .i64 (h 5).a, .int .i64 (h 5).b]), (w.heap.size, 22, #[.int .i64 (x 0), .int .i64 (x 1), .int .i64 (x 2), .int .i64 (x 3), .int .i64 (x 4), .int .i64 (x 5)])]) := Lib.hid (G8.box 22 #[.int .i64 0, .int .i64 0, .int .i64 0, .int .i64 0, .int .i64 0, .int .i64 0])
  clear G8
  have y0 := F9.out.at1.cell 0
  have y1 := F9.out.at1.cell 1
  have y2 := F9.out.at1.cell 2
  have y3 := F9.out.at1.cell 3
  have y4 := F9.out.at1.cell 4
  have y5 := F9.out.at1.cell 5
  have t0 := F9.out.top.cell 0
  have t1 := F9.out.top.cell 1
  have t2 := F9.out.top.cell 2
  have t3 := F9.out.top.cell 3
  have t4 := F9.out.top.cell 4
  have t5 := F9.out.top.cell 5
  have hq : ∀ w, (Op.equalIn 10000 22 (.agg #[.int .i64 0, .int .i64 0, .int .i64 0, .int .i64 0, .int .i64 0, .int .i64 0]) (.agg #[.int .i64 0, .int .i64 0, .int .i64 0, .int .i64 0, .int .i64 0, .int .i64 0])).run Tryd.prog w = .ok true w := fun w => eqA6_same (fun _ => 0) w
  go_wp2_with fail
  go_ret
  exact ⟨rfl, F9.out.bl⟩

set_option maxHeartbeats 8000000 in
set_option maxRecDepth 100000 in
theorem ord_bad_ok (x : Nat → Int) (h : Nat → T3) (v : Nat → Int) (ee : Int) (HS : Hid (∀ w, Calls Tryd.prog 13 #[.agg #[.int .i64 (x 0), .int .i64 (x 1), .int .i64 (x 2), .int .i64 (x 3), .int .i64 (x 4), .int .i64 (x 5)]] w fun e w' => e = .returned (.int .i64 2) ∧ Below w.heap.size w w')) (HOR : Hid (∀ w, Calls Tryd.prog 10 #[.agg #[.int .i64 (x 0), .int .i64 (x 1), .int .i64 (x 2), .int .i64 (x 3), .int .i64 (x 4), .int .i64 (x 5)]] w fun e w' => e = .returned (.tuple #[.agg #[.int .i64 0, .int .i64 0, .int .i64 0, .int .i64 0, .int .i64 0, .int .i64 0, .int .i64 0, .int .i64 0, .int .i64 0, .int .i64 0, .int .i64 0, .int .i64 0], .int .i64 2]) ∧ Below w.heap.size w w')) (HEN : Hid (∀ w, Calls Tryd.prog 11 #[.agg #[.int .i64 (x 0), .int .i64 (x 1), .int .i64 (x 2), .int .i64 (x 3), .int .i64 (x 4), .int .i64 (x 5)]] w fun e w' => e = .returned (.tuple #[.int .i64 0, .int .i64 2]) ∧ Below w.heap.size w w')) (HSA : Hid (∀ w, Calls Tryd.prog 12 #[.agg #[.int .i64 (h 0).a, .int .i64 (h 0).b, .int .i64 (h 1).a, .int .i64 (h 1).b, .int .i64 (h 2).a, .int .i64 (h 2).b, .int .i64 (h 3).a, .int .i64 (h 3).b, .int .i64 (h 4).a, .int .i64 (h 4).b, .int .i64 (h 5).a, .int .i64 (h 5).b]] w fun e w' => e = .returned (.tuple #[.agg #[.int .i64 (v 0), .int .i64 (v 1), .int .i64 (v 2), .int .i64 (v 3), .int .i64 (v 4), .int .i64 (v 5)], .int .i64 ee]) ∧ Below w.heap.size w w')) (HOE : Hid (∀ w, Calls Tryd.prog 16 #[.agg #[.int .i64 (h 0).a, .int .i64 (h 0).b, .int .i64 (h 1).a, .int .i64 (h 1).b, .int .i64 (h 2).a, .int .i64 (h 2).b, .int .i64 (h 3).a, .int .i64 (h 3).b, .int .i64 (h 4).a, .int .i64 (h 4).b, .int .i64 (h 5).a, .int .i64 (h 5).b]] w fun e w' => e = .returned (.int .i64 0) ∧ Below w.heap.size w w')) (HRS : Hid (∀ w, Calls Tryd.prog 17 #[.agg #[.int .i64 (h 0).a, .int .i64 (h 0).b, .int .i64 (h 1).a, .int .i64 (h 1).b, .int .i64 (h 2).a, .int .i64 (h 2).b, .int .i64 (h 3).a, .int .i64 (h 3).b, .int .i64 (h 4).a, .int .i64 (h 4).b, .int .i64 (h 5).a, .int .i64 (h 5).b]] w fun e w' => e = .returned (.tuple #[.agg #[.int .i64 (v 0), .int .i64 (v 1), .int .i64 (v 2), .int .i64 (v 3), .int .i64 (v 4), .int .i64 (v 5)], .int .i64 ee]) ∧ Below w.heap.size w w')) (w : World) (hT : Tab w) : Calls Tryd.prog 3 #[.agg #[.int .i64 (x 0), .int .i64 (x 1), .int .i64 (x 2), .int .i64 (x 3), .int .i64 (x 4), .int .i64 (x 5)], .agg #[.int .i64 (h 0).a, .int .i64 (h 0).b, .int .i64 (h 1).a, .int .i64 (h 1).b, .int .i64 (h 2).a, .int .i64 (h 2).b, .int .i64 (h 3).a, .int .i64 (h 3).b, .int .i64 (h 4).a, .int .i64 (h 4).b, .int .i64 (h 5).a, .int .i64 (h 5).b]] w fun e w' => e = .returned (.bool true) ∧ Below w.heap.size w w' := by
  have F0 := Lib.hid (Fr.b2 w 22 #[.int .i64 (x 0), .int .i64 (x 1), .int .i64 (x 2), .int .i64 (x 3), .int .i64 (x 4), .int .i64 (x 5)] 25 #[.int .i64 (h 0).a, .int .i64 (h 0).b, .int .i64 (h 1).a, .int .i64 (h 1).b, .int .i64 (h 2).a, .int .i64 (h 2).b, .int .i64 (h 3).a, .int .i64 (h 3).b, .int .i64 (h 4).a, .int .i64 (h 4).b, .int .i64 (h 5).a, .int .i64 (h 5).b])
  have T0 := Lib.hid ((hT.new (.cells #[.int .i64 (x 0), .int .i64 (x 1), .int .i64 (x 2), .int .i64 (x 3), .int .i64 (x 4), .int .i64 (x 5)] 22)).new (.cells #[.int .i64 (h 0).a, .int .i64 (h 0).b, .int .i64 (h 1).a, .int .i64 (h 1).b, .int .i64 (h 2).a, .int .i64 (h 2).b, .int .i64 (h 3).a, .int .i64 (h 3).b, .int .i64 (h 4).a, .int .i64 (h 4).b, .int .i64 (h 5).a, .int .i64 (h 5).b] 25))
  clear hT
  go_enter Tryd.func3, Tryd.ntmps3
  go_wp2_with fail
  refine (awake_any _ T0.out).mono ?_
  rintro e w1 ⟨rfl, hb1⟩
  have F1 := Lib.hid (F0.out.call hb1)
  clear hb1 F0
  have x0 := F1.out.at1.cell 0
  have x1 := F1.out.at1.cell 1
  have x2 := F1.out.at1.cell 2
  have x3 := F1.out.at1.cell 3
  have x4 := F1.out.at1.cell 4
  have x5 := F1.out.at1.cell 5
  go_wp2_with fail
  refine (HOR.out _).mono ?_
  rintro e w2 ⟨rfl, hb2⟩
  have G2 := F1.out.call hb2
  clear hb2 F1 x0 x1 x2 x3 x4 x5
  have x0 := G2.at1.cell 0
  have x1 := G2.at1.cell 1
  have x2 := G2.at1.cell 2
  have x3 := G2.at1.cell 3
  have x4 := G2.at1.cell 4
  have x5 := G2.at1.cell 5
  have z1 := G2.top.lt
  have z2 := G2.at1.lt
  have F3 : Hid (Fr w _ [(w2.heap.size, 25, #[.int .i64 0, .int .i64 0, .int .i64 0, .int .i64 0, .int .i64 0, .int .i64 0, .int .i64 0, .int .i64 0, .int .i64 0, .int .i64 0, .int .i64 0, .int .i64 0]), (w.heap.size + 1, 25, #[.int .i64 (h 0).a, .int .i64 (h 0).b, .int .i64 (h 1).a, .int .i64 (h 1).b, .int .i64 (h 2).a, .int .i64 (h 2).b, .int .i64 (h 3).a, .int .i64 (h 3).b, .int .i64 (h 4).a, .int .i64 (h 4).b, .int .i64 (h 5).a, .int .i64 (h 5).b]), (w.heap.size, 22, #[.int .i64 (x 0), .int .i64 (x 1), .int .i64 (x 2), .int .i64 (x 3), .int .i64 (x 4), .int .i64 (x 5)])]) := Lib.hid (G2.box 25 #[.int .i64 0, .int .i64 0, .int .i64 0, .int .i64 0, .int .i64 0, .int .i64 0, .int .i64 0, .int .i64 0, .int .i64 0, .int .i64 0, .int .i64 0, .int .i64 0])
  clear G2
  go_wp2_with fail
  refine (HEN.out _).mono ?_
  rintro e w4 ⟨rfl, hb4⟩
  have F4 := Lib.hid (F3.out.call hb4)
  clear hb4 F3 z1 z2 x0 x1 x2 x3 x4 x5
  have h0 := F4.out.at1.cell 0
  have h1 := F4.out.at1.cell 1
  have h2 := F4.out.at1.cell 2
  have h3 := F4.out.at1.cell 3
  have h4 := F4.out.at1.cell 4
  have h5 := F4.out.at1.cell 5
  have h6 := F4.out.at1.cell 6
  have h7 := F4.out.at1.cell 7
  have h8 := F4.out.at1.cell 8
  have h9 := F4.out.at1.cell 9
  have h10 := F4.out.at1.cell 10
  have h11 := F4.out.at1.cell 11
  go_wp2_with fail
  refine (HSA.out _).mono ?_
  rintro e w5 ⟨rfl, hb5⟩
  have G5 := F4.out.call hb5
  clear hb5 F4 h0 h1 h2 h3 h4 h5 h6 h7 h8 h9 h10 h11
  have x0 := G5.at2.cell 0
  have x1 := G5.at2.cell 1
  have x2 := G5.at2.cell 2
  have x3 := G5.at2.cell 3
  have x4 := G5.at2.cell 4
  have x5 := G5.at2.cell 5
  have z1 := G5.top.lt
  have z2 := G5.at1.lt
  have z3 := G5.at2.lt
  have F5 : Hid (Fr w _ [(w5.heap.size, 22, #[.int .i64 (v 0), .int .i64 (v 1), .int .i64 (v 2), .int .i64 (v 3), .int .i64 (v 4), .int .i64 (v 5)]), (w2.heap.size, 25, #[.int .i64 0, .int .i64 0, .int .i64 0, .int .i64 0, .int .i64 0, .int .i64 0, .int .i64 0, .int .i64 0, .int .i64 0, .int .i64 0, .int .i64 0, .int .i64 0]), (w.heap.size + 1, 25, #[.int .i64 (h 0).a, .int .i64 (h 0).b, .int .i64 (h 1).a, .int .i64 (h 1).b, .int .i64 (h 2).a, .int .i64 (h 2).b, .int .i64 (h 3).a, .int .i64 (h 3).b, .int .i64 (h 4).a, .int .i64 (h 4).b, .int .i64 (h 5).a, .int .i64 (h 5).b]), (w.heap.size, 22, #[.int .i64 (x 0), .int .i64 (x 1), .int .i64 (x 2), .int .i64 (x 3), .int .i64 (x 4), .int .i64 (x 5)])]) := Lib.hid (G5.box 22 #[.int .i64 (v 0), .int .i64 (v 1), .int .i64 (v 2), .int .i64 (v 3), .int .i64 (v 4), .int .i64 (v 5)])
  clear G5
  go_wp2_with fail
  refine (HS.out _).mono ?_
  rintro e w6 ⟨rfl, hb6⟩
  have F6 := Lib.hid (F5.out.call hb6)
  clear hb6 F5 z1 z2 z3 x0 x1 x2 x3 x4 x5
  have a0 := F6.out.at1.cell 0
  have a1 := F6.out.at1.cell 1
  have a2 := F6.out.at1.cell 2
  have a3 := F6.out.at1.cell 3
  have a4 := F6.out.at1.cell 4
  have a5 := F6.out.at1.cell 5
  have a6 := F6.out.at1.cell 6
  have a7 := F6.out.at1.cell 7
  have a8 := F6.out.at1.cell 8
  have a9 := F6.out.at1.cell 9
  have a10 := F6.out.at1.cell 10
  have a11 := F6.out.at1.cell 11
  have h0 := F6.out.at2.cell 0
  have h1 := F6.out.at2.cell 1
  have h2 := F6.out.at2.cell 2
  have h3 := F6.out.at2.cell 3
  have h4 := F6.out.at2.cell 4
  have h5 := F6.out.at2.cell 5
  have h6 := F6.out.at2.cell 6
  have h7 := F6.out.at2.cell 7
  have h8 := F6.out.at2.cell 8
  have h9 := F6.out.at2.cell 9
  have h10 := F6.out.at2.cell 10
  have h11 := F6.out.at2.cell 11
  have hq : ∀ w, (Op.equalIn 10000 25 (.agg #[.int .i64 0, .int .i64 0, .int .i64 0, .int .i64 0, .int .i64 0, .int .i64 0, .int .i64 0, .int .i64 0, .int .i64 0, .int .i64 0, .int .i64 0, .int .i64 0]) (.agg #[.int .i64 0, .int .i64 0, .int .i64 0, .int .i64 0, .int .i64 0, .int .i64 0, .int .i64 0, .int .i64 0, .int .i64 0, .int .i64 0, .int .i64 0, .int .i64 0])).run Tryd.prog w = .ok true w := fun w => eqT6_same (fun _ => T3.zero) w
  go_wp2_with fail
  clear hq a0 a1 a2 a3 a4 a5 a6 a7 a8 a9 a10 a11
  refine (HOE.out _).mono ?_
  rintro e w8 ⟨rfl, hb8⟩
  have G8 := F6.out.call hb8
  clear hb8 F6 h0 h1 h2 h3 h4 h5 h6 h7 h8 h9 h10 h11
  have h0 := G8.at2.cell 0
  have h1 := G8.at2.cell 1
  have h2 := G8.at2.cell 2
  have h3 := G8.at2.cell 3
  have h4 := G8.at2.cell 4
  have h5 := G8.at2.cell 5
  have h6 := G8.at2.cell 6
  have h7 := G8.at2.cell 7
  have h8 := G8.at2.cell 8
  have h9 := G8.at2.cell 9
  have h10 := G8.at2.cell 10
  have h11 := G8.at2.cell 11
  have z1 := G8.at2.lt
  have n1 := G8.top.lt
  have n2 := G8.at1.lt
  have n3 := G8.at2.lt
  have n4 := G8.at3.lt
  have n5 : w.heap.size ≤ w8.heap.size := G8.size
  have F9 : Hid (Fr w _ [(w8.heap.size, 22, #[.int .i64 0, .int .i64 0, .int .i64 0, .int .i64 0, .int .i64 0, .int .i64 0]), (w5.heap.size, 22, #[.int .i64 (v 0), .int .i64 (v 1), .int .i64 (v 2), .int .i64 (v 3), .int .i64 (v 4), .int .i64 (v 5)]), (w2.heap.size, 25, #[.int .i64 0, .int .i64 0, .int .i64 0, .int .i64 0, .int .i64 0, .int .i64 0, .int .i64 0, .int .i64 0, .int .i64 0, .int .i64 0, .int .i64 0, .int .i64 0]), (w.heap.size + 1, 25, #[.int .i64 (h 0).a, .int .i64 (h 0).b, .int .i64 (h 1).a, .int .i64 (h 1).b, .int .i64 (h 2).a, .int .i64 (h 2).b, .int .i64 (h 3).a, .int .i64 (h 3).b, .int .i64 (h 4).a, .int .i64 (h 4).b, .int .i64 (h 5).a, .int .i64 (h 5).b]), (w.heap.size, 22, #[.int .i64 (x 0), .int .i64 (x 1), .int .i64 (x 2), .int .i64 (x 3), .int .i64 (x 4), .int .i64 (x 5)])]) := Lib.hid (G8.box 22 #[.int .i64 0, .int .i64 0, .int .i64 0, .int .i64 0, .int .i64 0, .int .i64 0])
  clear G8
  go_wp2_with fail
  refine (HRS.out _).mono ?_
  rintro e w9 ⟨rfl, hb9⟩
  have F10 := Lib.hid (F9.out.call hb9)
  clear hb9 F9 z1 h0 h1 h2 h3 h4 h5 h6 h7 h8 h9 h10 h11
  have r0 := F10.out.top.cell 0
  have r1 := F10.out.top.cell 1
  have r2 := F10.out.top.cell 2
  have r3 := F10.out.top.cell 3
  have r4 := F10.out.top.cell 4
  have r5 := F10.out.top.cell 5
  have g0 := F10.out.top.frozen 0
  have g1 := F10.out.top.frozen 1
  have g2 := F10.out.top.frozen 2
  have g3 := F10.out.top.frozen 3
  have g4 := F10.out.top.frozen 4
  have g5 := F10.out.top.frozen 5
  go_upto_region 16 with fail
  refine wp_abs ?_
  intro wz hwz
  have F11 : Hid (Fr w wz [(w8.heap.size, 22, #[.int .i64 (v 0), .int .i64 (v 1), .int .i64 (v 2), .int .i64 (v 3), .int .i64 (v 4), .int .i64 (v 5)]), (w5.heap.size, 22, #[.int .i64 (v 0), .int .i64 (v 1), .int .i64 (v 2), .int .i64 (v 3), .int .i64 (v 4), .int .i64 (v 5)]), (w2.heap.size, 25, #[.int .i64 0, .int .i64 0, .int .i64 0, .int .i64 0, .int .i64 0, .int .i64 0, .int .i64 0, .int .i64 0, .int .i64 0, .int .i64 0, .int .i64 0, .int .i64 0]), (w.heap.size + 1, 25, #[.int .i64 (h 0).a, .int .i64 (h 0).b, .int .i64 (h 1).a, .int .i64 (h 1).b, .int .i64 (h 2).a, .int .i64 (h 2).b, .int .i64 (h 3).a, .int .i64 (h 3).b, .int .i64 (h 4).a, .int .i64 (h 4).b, .int .i64 (h 5).a, .int .i64 (h 5).b]), (w.heap.size, 22, #[.int .i64 (x 0), .int .i64 (x 1), .int .i64 (x 2), .int .i64 (x 3), .int .i64 (x 4), .int .i64 (x 5)])]) := Lib.hid (by rw [← hwz]; exact F10.out.put6 (by omega) (by simp; omega))
  clear hwz F10 r0 r1 r2 r3 r4 r5 g0 g1 g2 g3 g4 g5
  have y0 := F11.out.at1.cell 0
  have y1 := F11.out.at1.cell 1
  have y2 := F11.out.at1.cell 2
  have y3 := F11.out.at1.cell 3
  have y4 := F11.out.at1.cell 4
  have y5 := F11.out.at1.cell 5
  have t0 := F11.out.top.cell 0
  have t1 := F11.out.top.cell 1
  have t2 := F11.out.top.cell 2
  have t3 := F11.out.top.cell 3
  have t4 := F11.out.top.cell 4
  have t5 := F11.out.top.cell 5
  have hq := eqA6_same v
  go_wp2_with fail
  go_ret
  exact ⟨rfl, F11.out.bl⟩

set_option maxHeartbeats 8000000 in
set_option maxRecDepth 100000 in
theorem ord_bad_bad (x : Nat → Int) (h : Nat → T3) (HS : Hid (∀ w, Calls Tryd.prog 13 #[.agg #[.int .i64 (x 0), .int .i64 (x 1), .int .i64 (x 2), .int .i64 (x 3), .int .i64 (x 4), .int .i64 (x 5)]] w fun e w' => e = .returned (.int .i64 2) ∧ Below w.heap.size w w')) (HOR : Hid (∀ w, Calls Tryd.prog 10 #[.agg #[.int .i64 (x 0), .int .i64 (x 1), .int .i64 (x 2), .int .i64 (x 3), .int .i64 (x 4), .int .i64 (x 5)]] w fun e w' => e = .returned (.tuple #[.agg #[.int .i64 0, .int .i64 0, .int .i64 0, .int .i64 0, .int .i64 0, .int .i64 0, .int .i64 0, .int .i64 0, .int .i64 0, .int .i64 0, .int .i64 0, .int .i64 0], .int .i64 2]) ∧ Below w.heap.size w w')) (HEN : Hid (∀ w, Calls Tryd.prog 11 #[.agg #[.int .i64 (x 0), .int .i64 (x 1), .int .i64 (x 2), .int .i64 (x 3), .int .i64 (x 4), .int .i64 (x 5)]] w fun e w' => e = .returned (.tuple #[.int .i64 0, .int .i64 2]) ∧ Below w.heap.size w w')) (HSA : Hid (∀ w, Calls Tryd.prog 12 #[.agg #[.int .i64 (h 0).a, .int .i64 (h 0).b, .int .i64 (h 1).a, .int .i64 (h 1).b, .int .i64 (h 2).a, .int .i64 (h 2).b, .int .i64 (h 3).a, .int .i64 (h 3).b, .int .i64 (h 4).a, .int .i64 (h 4).b, .int .i64 (h 5).a, .int .i64 (h 5).b]] w fun e w' => e = .returned (.tuple #[.agg #[.int .i64 0, .int .i64 0, .int .i64 0, .int .i64 0, .int .i64 0, .int .i64 0], .int .i64 2]) ∧ Below w.heap.size w w')) (HOE : Hid (∀ w, Calls Tryd.prog 16 #[.agg #[.int .i64 (h 0).a, .int .i64 (h 0).b, .int .i64 (h 1).a, .int .i64 (h 1).b, .int .i64 (h 2).a, .int .i64 (h 2).b, .int .i64 (h 3).a, .int .i64 (h 3).b, .int .i64 (h 4).a, .int .i64 (h 4).b, .int .i64 (h 5).a, .int .i64 (h 5).b]] w fun e w' => e = .returned (.int .i64 2) ∧ Below w.heap.size w w')) (w : World) (hT : Tab w) : Calls Tryd.prog 3 #[.agg #[.int .i64 (x 0), .int .i64 (x 1), .int .i64 (x 2), .int .i64 (x 3), .int .i64 (x 4), .int .i64 (x 5)], .agg #[.int .i64 (h 0).a, .int .i64 (h 0).b, .int .i64 (h 1).a, .int .i64 (h 1).b, .int .i64 (h 2).a, .int .i64 (h 2).b, .int .i64 (h 3).a, .int .i64 (h 3).b, .int .i64 (h 4).a, .int .i64 (h 4).b, .int .i64 (h 5).a, .int .i64 (h 5).b]] w fun e w' => e = .returned (.bool true) ∧ Below w.heap.size w w' := by
  have F0 := Lib.hid (Fr.b2 w 22 #[.int .i64 (x 0), .int .i64 (x 1), .int .i64 (x 2), .int .i64 (x 3), .int .i64 (x 4), .int .i64 (x 5)] 25 #[.int .i64 (h 0).a, .int .i64 (h 0).b, .int .i64 (h 1).a, .int .i64 (h 1).b, .int .i64 (h 2).a, .int .i64 (h 2).b, .int .i64 (h 3).a, .int .i64 (h 3).b, .int .i64 (h 4).a, .int .i64 (h 4).b, .int .i64 (h 5).a, .int .i64 (h 5).b])
  have T0 := Lib.hid ((hT.new (.cells #[.int .i64 (x 0), .int .i64 (x 1), .int .i64 (x 2), .int .i64 (x 3), .int .i64 (x 4), .int .i64 (x 5)] 22)).new (.cells #[.int .i64 (h 0).a, .int .i64 (h 0).b, .int .i64 (h 1).a, .int .i64 (h 1).b, .int .i64 (h 2).a, .int .i64 (h 2).b, .int .i64 (h 3).a, .int .i64 (h 3).b, .int .i64 (h 4).a, .int .i64 (h 4).b, .int .i64 (h 5).a, .int .i64 (h 5).b] 25))
  clear hT
  go_enter Tryd.func3, Tryd.ntmps3
  go_wp2_with fail
  refine (awake_any _ T0.out).mono ?_
  rintro e w1 ⟨rfl, hb1⟩
  have F1 := Lib.hid (F0.out.call hb1)
  clear hb1 F0
  have x0 := F1.out.at1.cell 0
  have x1 := F1.out.at1.cell 1
  have x2 := F1.out.at1.cell 2
  have x3 := F1.out.at1.cell 3
  have x4 := F1.out.at1.cell 4
  have x5 := F1.out.at1.cell 5
  go_wp2_with fail
  refine (HOR.out _).mono ?_
  rintro e w2 ⟨rfl, hb2⟩
  have G2 := F1.out.call hb2
  clear hb2 F1 x0 x1 x2 x3 x4 x5
  have x0 := G2.at1.cell 0
  have x1 := G2.at1.cell 1
  have x2 := G2.at1.cell 2
  have x3 := G2.at1.cell 3
  have x4 := G2.at1.cell 4
  have x5 := G2.at1.cell 5
  have z1 := G2.top.lt
  have z2 := G2.at1.lt
  have F3 : Hid (Fr w _ [(w2.heap.size, 25, #[.int .i64 0, .int .i64 0, .int .i64 0, .int .i64 0, .int .i64 0, .int .i64 0, .int .i64 0, .int .i64 0, .int .i64 0, .int .i64 0, .int .i64 0, .int .i64 0]), (w.heap.size + 1, 25, #[.int .i64 (h 0).a, .int .i64 (h 0).b, .int .i64 (h 1).a, .int .i64 (h 1).b, .int .i64 (h 2).a, .int .i64 (h 2).b, .int .i64 (h 3).a, .int .i64 (h 3).b, .int .i64 (h 4).a, .int .i64 (h 4).b, .int .i64 (h 5).a, .int .i64 (h 5).b]), (w.heap.size, 22, #[.int .i64 (x 0), .int .i64 (x 1), .int .i64 (x 2), .int .i64 (x 3), .int .i64 (x 4), .int .i64 (x 5)])]) := Lib.hid (G2.box 25 #[.int .i64 0, .int .i64 0, .int .i64 0, .int .i64 0, .int .i64 0, .int .i64 0, .int .i64 0, .int .i64 0, .int .i64 0, .int .i64 0, .int .i64 0, .int .i64 0])
  clear G2
  go_wp2_with fail
  refine (HEN.out _).mono ?_
  rintro e w4 ⟨rfl, hb4⟩
  have F4 := Lib.hid (F3.out.call hb4)
  clear hb4 F3 z1 z2 x0 x1 x2 x3 x4 x5
  have h0 := F4.out.at1.cell 0
  have h1 := F4.out.at1.cell 1
  have h2 := F4.out.at1.cell 2
  have h3 := F4.out.at1.cell 3
  have h4 := F4.out.at1.cell 4
  have h5 := F4.out.at1.cell 5
  have h6 := F4.out.at1.cell 6
  have h7 := F4.out.at1.cell 7
  have h8 := F4.out.at1.cell 8
  have h9 := F4.out.at1.cell 9
  have h10 := F4.out.at1.cell 10
  have h11 := F4.out.at1.cell 11
  go_wp2_with fail
  refine (HSA.out _).mono ?_
  rintro e w5 ⟨rfl, hb5⟩
  have G5 := F4.out.call hb5
  clear hb5 F4 h0 h1 h2 h3 h4 h5 h6 h7 h8 h9 h10 h11
  have x0 := G5.at2.cell 0
  have x1 := G5.at2.cell 1
  have x2 := G5.at2.cell 2
  have x3 := G5.at2.cell 3
  have x4 := G5.at2.cell 4
  have x5 := G5.at2.cell 5
  have z1 := G5.top.lt
  have z2 := G5.at1.lt
  have z3 := G5.at2.lt
  have F5 : Hid (Fr w _ [(w5.heap.size, 22, #[.int .i64 0, .int .i64 0, .int .i64 0, .int .i64 0, .int .i64 0, .int .i64 0]), (w2.heap.size, 25, #[.int .i64 0, .int .i64 0, .int .i64 0, .int .i64 0, .int .i64 0, .int .i64 0, .int .i64 0, .int .i64 0, .int .i64 0, .int .i64 0, .int .i64 0, .int .i64 0]), (w.heap.size + 1, 25, #[.int .i64 (h 0).a, .int .i64 (h 0).b, .int .i64 (h 1).a, .int .i64 (h 1).b, .int .i64 (h 2).a, .int .i64 (h 2).b, .int .i64 (h 3).a, .int .i64 (h 3).b, .int .i64 (h 4).a, .int .i64 (h 4).b, .int .i64 (h 5).a, .int .i64 (h 5).b]), (w.heap.size, 22, #[.int .i64 (x 0), .int .i64 (x 1), .int .i64 (x 2), .int .i64 (x 3), .int .i64 (x 4), .int .i64 (x 5)])]) := Lib.hid (G5.box 22 #[.int .i64 0, .int .i64 0, .int .i64 0, .int .i64 0, .int .i64 0, .int .i64 0])
  clear G5
  go_wp2_with fail
  refine (HS.out _).mono ?_
  rintro e w6 ⟨rfl, hb6⟩
  have F6 := Lib.hid (F5.out.call hb6)
  clear hb6 F5 z1 z2 z3 x0 x1 x2 x3 x4 x5
  have a0 := F6.out.at1.cell 0
  have a1 := F6.out.at1.cell 1
  have a2 := F6.out.at1.cell 2
  have a3 := F6.out.at1.cell 3
  have a4 := F6.out.at1.cell 4
  have a5 := F6.out.at1.cell 5
  have a6 := F6.out.at1.cell 6
  have a7 := F6.out.at1.cell 7
  have a8 := F6.out.at1.cell 8
  have a9 := F6.out.at1.cell 9
  have a10 := F6.out.at1.cell 10
  have a11 := F6.out.at1.cell 11
  have h0 := F6.out.at2.cell 0
  have h1 := F6.out.at2.cell 1
  have h2 := F6.out.at2.cell 2
  have h3 := F6.out.at2.cell 3
  have h4 := F6.out.at2.cell 4
  have h5 := F6.out.at2.cell 5
  have h6 := F6.out.at2.cell 6
  have h7 := F6.out.at2.cell 7
  have h8 := F6.out.at2.cell 8
  have h9 := F6.out.at2.cell 9
  have h10 := F6.out.at2.cell 10
  have h11 := F6.out.at2.cell 11
  have hq : ∀ w, (Op.equalIn 10000 25 (.agg #[.int .i64 0, .int .i64 0, .int .i64 0, .int .i64 0, .int .i64 0, .int .i64 0, .int .i64 0, .int .i64 0, .int .i64 0, .int .i64 0, .int .i64 0, .int .i64 0]) (.agg #[.int .i64 0, .int .i64 0, .int .i64 0, .int .i64 0, .int .i64 0, .int .i64 0, .int .i64 0, .int .i64 0, .int .i64 0, .int .i64 0, .int .i64 0, .int .i64 0])).run Tryd.prog w = .ok true w := fun w => eqT6_same (fun _ => T3.zero) w
  go_wp2_with fail
  clear hq a0 a1 a2 a3 a4 a5 a6 a7 a8 a9 a10 a11
  refine (HOE.out _).mono ?_
  rintro e w8 ⟨rfl, hb8⟩
  have G8 := F6.out.call hb8
  clear hb8 F6 h0 h1 h2 h3 h4 h5 h6 h7 h8 h9 h10 h11
  have z1 := G8.top.lt
  have F9 : Hid (Fr w _ [(w8.heap.size, 22, #[.int .i64 0, .int .i64 0, .int .i64 0, .int .i64 0, .int .i64 0, .int .i64 0]), (w5.heap.size, 22, #[.int .i64 0, .int .i64 0, .int .i64 0, .int .i64 0, .int .i64 0, .int .i64 0]), (w2.heap.size, 25, #[.int .i64 0, .int .i64 0, .int .i64 0, .int .i64 0, .int .i64 0, .int .i64 0, .int .i64 0, .int .i64 0, .int .i64 0, .int .i64 0, .int .i64 0, .int .i64 0]), (w.heap.size + 1, 25, #[.int .i64 (h 0).a, .int .i64 (h 0).b, .int .i64 (h 1).a, .int .i64 (h 1).b, .int .i64 (h 2).a, .int .i64 (h 2).b, .int .i64 (h 3).a, .int .i64 (h 3).b, .int .i64 (h 4).a, .int .i64 (h 4).b, .int .i64 (h 5).a, .int .i64 (h 5).b]), (w.heap.size, 22, #[.int .i64 (x 0), .int .i64 (x 1), .int .i64 (x 2), .int .i64 (x 3), .int .i64 (x 4), .int .i64 (x 5)])]) := Lib.hid (G8.box 22 #[.int .i64 0, .int .i64 0, .int .i64 0, .int .i64 0, .int .i64 0, .int .i64 0])
  clear G8
  have y0 := F9.out.at1.cell 0
  have y1 := F9.out.at1.cell 1
  have y2 := F9.out.at1.cell 2
  have y3 := F9.out.at1.cell 3
  have y4 := F9.out.at1.cell 4
  have y5 := F9.out.at1.cell 5
  have t0 := F9.out.top.cell 0
  have t1 := F9.out.top.cell 1
  have t2 := F9.out.top.cell 2
  have t3 := F9.out.top.cell 3
  have t4 := F9.out.top.cell 4
  have t5 := F9.out.top.cell 5
  have hq : ∀ w, (Op.equalIn 10000 22 (.agg #[.int .i64 0, .int .i64 0, .int .i64 0, .int .i64 0, .int .i64 0, .int .i64 0]) (.agg #[.int .i64 0, .int .i64 0, .int .i64 0, .int .i64 0, .int .i64 0, .int .i64 0])).run Tryd.prog w = .ok true w := fun w => eqA6_same (fun _ => 0) w
  go_wp2_with fail
  go_ret
  exact ⟨rfl, F9.out.bl⟩

theorem StatorOrders_any (x : Nat → Int) (hz : ∀ i, 6 ≤ i → x i = 0) (h : Nat → T3) (hh : ∀ i, 6 ≤ i → h i = T3.zero) (w : World) (hT : Tab w) : Calls Tryd.prog 3 #[.agg #[.int .i64 (x 0), .int .i64 (x 1), .int .i64 (x 2), .int .i64 (x 3), .int .i64 (x 4), .int .i64 (x 5)], .agg #[.int .i64 (h 0).a, .int .i64 (h 0).b, .int .i64 (h 1).a, .int .i64 (h 1).b, .int .i64 (h 2).a, .int .i64 (h 2).b, .int .i64 (h 3).a, .int .i64 (h 3).b, .int .i64 (h 4).a, .int .i64 (h 4).b, .int .i64 (h 5).a, .int .i64 (h 5).b]] w fun e w' => e = .returned (.bool true) ∧ Below w.heap.size w w' := by
  have HSA := Lib.hid (SamplesOf_any h hh)
  have HOE := Lib.hid (OrdersErr_any h)
  cases hb : okH h with
  | true =>
    have hin := okh_in (fun j hj => by
      cases e : okh (h j) with
      | true => rfl
      | false => rw [okH_bad hj e] at hb; exact absurd hb (by simp)) hh
    have S1 := Lib.hid (fun w => by have := HSA.out w; exact this)
    have OE := Lib.hid (fun w => by have := HOE.out w; unfold ohE at this; rw [if_pos hb] at this; exact this)
    cases hx : ok6 x with
    | true =>
      exact ord_ok_ok x h (ordV x) (enV x 6) (smpA h).1 (smpA h).2 (Lib.hid (fun w => by have := SamplesErr_any x w; rw [if_pos hx] at this; exact this)) (Lib.hid (OrdersOf_ok x hx hz)) (Lib.hid (EnergyOf_ok x hx hz)) S1 OE (Lib.hid (refOrdersOf_any x (ok6_in hx hz))) (Lib.hid (refEnergyOf_any x (ok6_in hx hz))) (Lib.hid (refSamplesOf_any h hh hb hin)) w hT
    | false =>
      exact ord_bad_ok x h (smpA h).1 (smpA h).2 (Lib.hid (fun w => by have := SamplesErr_any x w; rw [if_neg (by rw [hx]; simp)] at this; exact this)) (Lib.hid (OrdersOf_bad x hx)) (Lib.hid (EnergyOf_bad x hx)) S1 OE (Lib.hid (refSamplesOf_any h hh hb hin)) w hT
  | false =>
    have S1 := Lib.hid (fun w => by have := HSA.out w; unfold SmpPost at this; rw [show smpA h = (fun _ => 0, 2) by unfold smpA; rw [if_pos hb]] at this; exact this)
    have OE := Lib.hid (fun w => by have := HOE.out w; unfold ohE at this; rw [if_neg (by rw [hb]; simp)] at this; exact this)
    cases hx : ok6 x with
    | true =>
      exact ord_ok_bad x h (ordV x) (enV x 6) (Lib.hid (fun w => by have := SamplesErr_any x w; rw [if_pos hx] at this; exact this)) (Lib.hid (OrdersOf_ok x hx hz)) (Lib.hid (EnergyOf_ok x hx hz)) S1 OE (Lib.hid (refOrdersOf_any x (ok6_in hx hz))) (Lib.hid (refEnergyOf_any x (ok6_in hx hz))) w hT
    | false =>
      exact ord_bad_bad x h (Lib.hid (fun w => by have := SamplesErr_any x w; rw [if_neg (by rw [hx]; simp)] at this; exact this)) (Lib.hid (OrdersOf_bad x hx)) (Lib.hid (EnergyOf_bad x hx)) S1 OE w hT
end Go.Proofs.YtohldmmfnjfgmaaDoor
