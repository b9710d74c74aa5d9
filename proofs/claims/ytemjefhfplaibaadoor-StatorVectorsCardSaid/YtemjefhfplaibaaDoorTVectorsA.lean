
/-
  The walk of StatorVectors, A.
-/
import Derived.Test.YtemjefhfplaibaaDoorTAwk
import Derived.Test.YtemjefhfplaibaaDoorTRefF
import Derived.Test.YtemjefhfplaibaaDoorTSec2
import Derived.Test.YtemjefhfplaibaaDoorTVecK
namespace Go.Proofs.YtemjefhfplaibaaDoor
open Go.RowKit

set_option maxHeartbeats 4000000 in
set_option maxRecDepth 100000 in
theorem vectors_bad_bad (x y z a b : Int) (hp : okP x y z = false) (hv : okT ⟨a, b⟩ = false) (w : World) (hT : Tab w) : Calls Tryd.prog 3 #[.agg #[.int .i64 x, .int .i64 y, .int .i64 z], .agg #[.int .i64 a, .int .i64 b]] w fun e w' => e = .returned (.bool true) ∧ Below w.heap.size w w' := by
  have F0 := Lib.hid (Fr.b2 w 22 #[.int .i64 x, .int .i64 y, .int .i64 z] 24 #[.int .i64 a, .int .i64 b])
  have T0 := Lib.hid ((hT.new (.cells #[.int .i64 x, .int .i64 y, .int .i64 z] 22)).new (.cells #[.int .i64 a, .int .i64 b] 24))
  clear hT
  have HVO : Hid (∀ w, Calls Tryd.prog 13 #[.agg #[.int .i64 x, .int .i64 y, .int .i64 z]] w fun e w' => e = .returned (.tuple #[.agg #[.int .i64 0, .int .i64 0], .int .i64 2]) ∧ Below w.heap.size w w') := Lib.hid (fun w => VectorOf_bad x y z hp w)
  have HPE : Hid (∀ w, Calls Tryd.prog 17 #[.agg #[.int .i64 x, .int .i64 y, .int .i64 z]] w fun e w' => e = .returned (.int .i64 2) ∧ Below w.heap.size w w') := Lib.hid (fun w => by have := PhasesErr_any x y z w; rw [szE_three, if_neg (by rw [hp]; simp)] at this; exact this)
  clear hp
  have HPO : Hid (∀ w, Calls Tryd.prog 14 #[.agg #[.int .i64 a, .int .i64 b]] w fun e w' => e = .returned (.tuple #[.agg #[.int .i64 0, .int .i64 0, .int .i64 0], .int .i64 2]) ∧ Below w.heap.size w w') := Lib.hid (fun w => PhasesOf_bad ⟨a, b⟩ hv w)
  have HSZ : Hid (∀ w, Calls Tryd.prog 15 #[.agg #[.int .i64 a, .int .i64 b]] w fun e w' => e = .returned (.tuple #[.agg #[.int .i64 0, .int .i64 0], .int .i64 2]) ∧ Below w.heap.size w w') := Lib.hid (fun w => SizeOf_bad ⟨a, b⟩ hv w)
  have HSE : Hid (∀ w, Calls Tryd.prog 16 #[.agg #[.int .i64 a, .int .i64 b]] w fun e w' => e = .returned (.tuple #[.int .i64 0, .int .i64 2]) ∧ Below w.heap.size w w') := Lib.hid (fun w => SectorOf_bad ⟨a, b⟩ hv w)
  have HVE : Hid (∀ w, Calls Tryd.prog 19 #[.agg #[.int .i64 a, .int .i64 b]] w fun e w' => e = .returned (.int .i64 2) ∧ Below w.heap.size w w') := Lib.hid (fun w => by have := VectorErr_any ⟨a, b⟩ w; rw [vE_bad hv] at this; exact this)
  clear hv
  have EQA := eqA3_same 0 0 0
  go_enter Tryd.func3, Tryd.ntmps3
  go_wp2_with fail
  refine (awake_any _ T0.out).mono ?_
  rintro e w1 ⟨rfl, hb1⟩
  have G1 := Fr.call F0.out hb1
  obtain ⟨k0_0, k0_1, k0_2⟩ := (G1.get 1 rfl).three
  have kz0 := (G1.get 1 rfl).lt
  obtain ⟨k1_0, k1_1, kf1, kg1⟩ := (G1.get 0 rfl).two
  have kz1 := (G1.get 0 rfl).lt
  have F1 : Hid (Fr w _ [(w.heap.size + 1, 24, #[.int .i64 a, .int .i64 b]), (w.heap.size, 22, #[.int .i64 x, .int .i64 y, .int .i64 z])]) := Lib.hid G1
  clear hb1 G1 F0
  go_wp2_with fail
  refine (HVO.out _).mono ?_
  rintro e w2 ⟨rfl, hb2⟩
  clear k0_0 k0_1 k0_2 kz0 k1_0 k1_1 kf1 kg1 kz1
  have G2 := Fr.call F1.out hb2
  obtain ⟨k0_0, k0_1, k0_2⟩ := (G2.get 1 rfl).three
  have kz0 := (G2.get 1 rfl).lt
  obtain ⟨k1_0, k1_1, kf1, kg1⟩ := (G2.get 0 rfl).two
  have kz1 := (G2.get 0 rfl).lt
  have F2 : Hid (Fr w _ [(w2.heap.size, 24, #[.int .i64 0, .int .i64 0]), (w.heap.size + 1, 24, #[.int .i64 a, .int .i64 b]), (w.heap.size, 22, #[.int .i64 x, .int .i64 y, .int .i64 z])]) := Lib.hid (Fr.box G2 24 #[.int .i64 0, .int .i64 0])
  clear hb2 G2 F1
  go_wp2_with fail
  refine (HPO.out _).mono ?_
  rintro e w3 ⟨rfl, hb3⟩
  clear k0_0 k0_1 k0_2 kz0 k1_0 k1_1 kf1 kg1 kz1
  have G3 := Fr.call F2.out hb3
  obtain ⟨k0_0, k0_1, k0_2⟩ := (G3.get 2 rfl).three
  have kz0 := (G3.get 2 rfl).lt
  obtain ⟨k1_0, k1_1, kf1, kg1⟩ := (G3.get 1 rfl).two
  have kz1 := (G3.get 1 rfl).lt
  obtain ⟨k2_0, k2_1, kf2, kg2⟩ := (G3.get 0 rfl).two
  have kz2 := (G3.get 0 rfl).lt
  have F3 : Hid (Fr w _ [(w3.heap.size, 22, #[.int .i64 0, .int .i64 0, .int .i64 0]), (w2.heap.size, 24, #[.int .i64 0, .int .i64 0]), (w.heap.size + 1, 24, #[.int .i64 a, .int .i64 b]), (w.heap.size, 22, #[.int .i64 x, .int .i64 y, .int .i64 z])]) := Lib.hid (Fr.box G3 22 #[.int .i64 0, .int .i64 0, .int .i64 0])
  clear hb3 G3 F2
  go_wp2_with fail
  refine (HSZ.out _).mono ?_
  rintro e w4 ⟨rfl, hb4⟩
  clear k0_0 k0_1 k0_2 kz0 k1_0 k1_1 kf1 kg1 kz1 k2_0 k2_1 kf2 kg2 kz2
  have G4 := Fr.call F3.out hb4
  obtain ⟨k0_0, k0_1, k0_2⟩ := (G4.get 3 rfl).three
  have kz0 := (G4.get 3 rfl).lt
  obtain ⟨k1_0, k1_1, kf1, kg1⟩ := (G4.get 2 rfl).two
  have kz1 := (G4.get 2 rfl).lt
  obtain ⟨k2_0, k2_1, kf2, kg2⟩ := (G4.get 1 rfl).two
  have kz2 := (G4.get 1 rfl).lt
  obtain ⟨k3_0, k3_1, k3_2⟩ := (G4.get 0 rfl).three
  have kz3 := (G4.get 0 rfl).lt
  have F4 : Hid (Fr w _ [(w4.heap.size, 32, #[.int .i64 0, .int .i64 0]), (w3.heap.size, 22, #[.int .i64 0, .int .i64 0, .int .i64 0]), (w2.heap.size, 24, #[.int .i64 0, .int .i64 0]), (w.heap.size + 1, 24, #[.int .i64 a, .int .i64 b]), (w.heap.size, 22, #[.int .i64 x, .int .i64 y, .int .i64 z])]) := Lib.hid (Fr.box G4 32 #[.int .i64 0, .int .i64 0])
  clear hb4 G4 F3
  go_wp2_with fail
  refine (HSE.out _).mono ?_
  rintro e w5 ⟨rfl, hb5⟩
  clear k0_0 k0_1 k0_2 kz0 k1_0 k1_1 kf1 kg1 kz1 k2_0 k2_1 kf2 kg2 kz2 k3_0 k3_1 k3_2 kz3
  have G5 := Fr.call F4.out hb5
  obtain ⟨k0_0, k0_1, k0_2⟩ := (G5.get 4 rfl).three
  have kz0 := (G5.get 4 rfl).lt
  obtain ⟨k1_0, k1_1, kf1, kg1⟩ := (G5.get 3 rfl).two
  have kz1 := (G5.get 3 rfl).lt
  obtain ⟨k2_0, k2_1, kf2, kg2⟩ := (G5.get 2 rfl).two
  have kz2 := (G5.get 2 rfl).lt
  obtain ⟨k3_0, k3_1, k3_2⟩ := (G5.get 1 rfl).three
  have kz3 := (G5.get 1 rfl).lt
  obtain ⟨k4_0, k4_1, kf4, kg4⟩ := (G5.get 0 rfl).two
  have kz4 := (G5.get 0 rfl).lt
  have F5 : Hid (Fr w _ [(w4.heap.size, 32, #[.int .i64 0, .int .i64 0]), (w3.heap.size, 22, #[.int .i64 0, .int .i64 0, .int .i64 0]), (w2.heap.size, 24, #[.int .i64 0, .int .i64 0]), (w.heap.size + 1, 24, #[.int .i64 a, .int .i64 b]), (w.heap.size, 22, #[.int .i64 x, .int .i64 y, .int .i64 z])]) := Lib.hid G5
  clear hb5 G5 F4
  go_wp2_with fail
  refine (HPE.out _).mono ?_
  rintro e w6 ⟨rfl, hb6⟩
  clear k0_0 k0_1 k0_2 kz0 k1_0 k1_1 kf1 kg1 kz1 k2_0 k2_1 kf2 kg2 kz2 k3_0 k3_1 k3_2 kz3 k4_0 k4_1 kf4 kg4 kz4
  have G6 := Fr.call F5.out hb6
  obtain ⟨k0_0, k0_1, k0_2⟩ := (G6.get 4 rfl).three
  have kz0 := (G6.get 4 rfl).lt
  obtain ⟨k1_0, k1_1, kf1, kg1⟩ := (G6.get 3 rfl).two
  have kz1 := (G6.get 3 rfl).lt
  obtain ⟨k2_0, k2_1, kf2, kg2⟩ := (G6.get 2 rfl).two
  have kz2 := (G6.get 2 rfl).lt
  obtain ⟨k3_0, k3_1, k3_2⟩ := (G6.get 1 rfl).three
  have kz3 := (G6.get 1 rfl).lt
  obtain ⟨k4_0, k4_1, kf4, kg4⟩ := (G6.get 0 rfl).two
  have kz4 := (G6.get 0 rfl).lt
  have F6 : Hid (Fr w _ [(w4.heap.size, 32, #[.int .i64 0, .int .i64 0]), (w3.heap.size, 22, #[.int .i64 0, .int .i64 0, .int .i64 0]), (w2.heap.size, 24, #[.int .i64 0, .int .i64 0]), (w.heap.size + 1, 24, #[.int .i64 a, .int .i64 b]), (w.heap.size, 22, #[.int .i64 x, .int .i64 y, .int .i64 z])]) := Lib.hid G6
  clear hb6 G6 F5
  go_wp2_with fail
  refine (HVE.out _).mono ?_
  rintro e w7 ⟨rfl, hb7⟩
  clear k0_0 k0_1 k0_2 kz0 k1_0 k1_1 kf1 kg1 kz1 k2_0 k2_1 kf2 kg2 kz2 k3_0 k3_1 k3_2 kz3 k4_0 k4_1 kf4 kg4 kz4
  have G7 := Fr.call F6.out hb7
  obtain ⟨k0_0, k0_1, k0_2⟩ := (G7.get 4 rfl).three
  have kz0 := (G7.get 4 rfl).lt
  obtain ⟨k1_0, k1_1, kf1, kg1⟩ := (G7.get 3 rfl).two
  have kz1 := (G7.get 3 rfl).lt
  obtain ⟨k2_0, k2_1, kf2, kg2⟩ := (G7.get 2 rfl).two
  have kz2 := (G7.get 2 rfl).lt
  obtain ⟨k3_0, k3_1, k3_2⟩ := (G7.get 1 rfl).three
  have kz3 := (G7.get 1 rfl).lt
  obtain ⟨k4_0, k4_1, kf4, kg4⟩ := (G7.get 0 rfl).two
  have kz4 := (G7.get 0 rfl).lt
  have F7 : Hid (Fr w _ [(w4.heap.size, 32, #[.int .i64 0, .int .i64 0]), (w3.heap.size, 22, #[.int .i64 0, .int .i64 0, .int .i64 0]), (w2.heap.size, 24, #[.int .i64 0, .int .i64 0]), (w.heap.size + 1, 24, #[.int .i64 a, .int .i64 b]), (w.heap.size, 22, #[.int .i64 x, .int .i64 y, .int .i64 z])]) := Lib.hid G7
  clear hb7 G7 F6
  go_wp2_with fail
  go_ret
  exact ⟨rfl, F7.out.bl⟩

set_option maxHeartbeats 4000000 in
set_option maxRecDepth 100000 in
theorem vectors_bad_zero (x y z : Int) (hp : okP x y z = false) (w : World) (hT : Tab w) : Calls Tryd.prog 3 #[.agg #[.int .i64 x, .int .i64 y, .int .i64 z], .agg #[.int .i64 0, .int .i64 0]] w fun e w' => e = .returned (.bool true) ∧ Below w.heap.size w w' := by
  have F0 := Lib.hid (Fr.b2 w 22 #[.int .i64 x, .int .i64 y, .int .i64 z] 24 #[.int .i64 0, .int .i64 0])
  have T0 := Lib.hid ((hT.new (.cells #[.int .i64 x, .int .i64 y, .int .i64 z] 22)).new (.cells #[.int .i64 0, .int .i64 0] 24))
  clear hT
  have HVO : Hid (∀ w, Calls Tryd.prog 13 #[.agg #[.int .i64 x, .int .i64 y, .int .i64 z]] w fun e w' => e = .returned (.tuple #[.agg #[.int .i64 0, .int .i64 0], .int .i64 2]) ∧ Below w.heap.size w w') := Lib.hid (fun w => VectorOf_bad x y z hp w)
  have HPE : Hid (∀ w, Calls Tryd.prog 17 #[.agg #[.int .i64 x, .int .i64 y, .int .i64 z]] w fun e w' => e = .returned (.int .i64 2) ∧ Below w.heap.size w w') := Lib.hid (fun w => by have := PhasesErr_any x y z w; rw [szE_three, if_neg (by rw [hp]; simp)] at this; exact this)
  clear hp
  have hv : okT ⟨0, 0⟩ = true := by decide
  obtain ⟨p0, p1, p2, lo, up, h1, h2, h3, h4⟩ := vec_known 0 0 hv
  have HPO := Lib.hid h1
  have HRP := Lib.hid h2
  have HSZ := Lib.hid h3
  have HRS := Lib.hid h4
  have HVE : Hid (∀ w, Calls Tryd.prog 19 #[.agg #[.int .i64 0, .int .i64 0]] w fun e w' => e = .returned (.int .i64 0) ∧ Below w.heap.size w w') := Lib.hid (fun w => by have := VectorErr_any ⟨0, 0⟩ w; rw [vE_ok hv] at this; exact this)
  have HSE : Hid (∀ w, Calls Tryd.prog 16 #[.agg #[.int .i64 0, .int .i64 0]] w fun e w' => e = .returned (.tuple #[.int .i64 0, .int .i64 11]) ∧ Below w.heap.size w w') := Lib.hid SectorOf_zero
  clear h1 h2 h3 h4 hv
  have EQA := eqA3_same p0 p1 p2
  go_enter Tryd.func3, Tryd.ntmps3
  go_wp2_with fail
  refine (awake_any _ T0.out).mono ?_
  rintro e w1 ⟨rfl, hb1⟩
  have G1 := Fr.call F0.out hb1
  obtain ⟨k0_0, k0_1, k0_2⟩ := (G1.get 1 rfl).three
  have kz0 := (G1.get 1 rfl).lt
  obtain ⟨k1_0, k1_1, kf1, kg1⟩ := (G1.get 0 rfl).two
  have kz1 := (G1.get 0 rfl).lt
  have F1 : Hid (Fr w _ [(w.heap.size + 1, 24, #[.int .i64 0, .int .i64 0]), (w.heap.size, 22, #[.int .i64 x, .int .i64 y, .int .i64 z])]) := Lib.hid G1
  clear hb1 G1 F0
  go_wp2_with fail
  refine (HVO.out _).mono ?_
  rintro e w2 ⟨rfl, hb2⟩
  clear k0_0 k0_1 k0_2 kz0 k1_0 k1_1 kf1 kg1 kz1
  have G2 := Fr.call F1.out hb2
  obtain ⟨k0_0, k0_1, k0_2⟩ := (G2.get 1 rfl).three
  have kz0 := (G2.get 1 rfl).lt
  obtain ⟨k1_0, k1_1, kf1, kg1⟩ := (G2.get 0 rfl).two
  have kz1 := (G2.get 0 rfl).lt
  have F2 : Hid (Fr w _ [(w2.heap.size, 24, #[.int .i64 0, .int .i64 0]), (w.heap.size + 1, 24, #[.int .i64 0, .int .i64 0]), (w.heap.size, 22, #[.int .i64 x, .int .i64 y, .int .i64 z])]) := Lib.hid (Fr.box G2 24 #[.int .i64 0, .int .i64 0])
  clear hb2 G2 F1
  go_wp2_with fail
  refine (HPO.out _).mono ?_
  rintro e w3 ⟨rfl, hb3⟩
  clear k0_0 k0_1 k0_2 kz0 k1_0 k1_1 kf1 kg1 kz1
  have G3 := Fr.call F2.out hb3
  obtain ⟨k0_0, k0_1, k0_2⟩ := (G3.get 2 rfl).three
  have kz0 := (G3.get 2 rfl).lt
  obtain ⟨k1_0, k1_1, kf1, kg1⟩ := (G3.get 1 rfl).two
  have kz1 := (G3.get 1 rfl).lt
  obtain ⟨k2_0, k2_1, kf2, kg2⟩ := (G3.get 0 rfl).two
  have kz2 := (G3.get 0 rfl).lt
  have F3 : Hid (Fr w _ [(w3.heap.size, 22, #[.int .i64 p0, .int .i64 p1, .int .i64 p2]), (w2.heap.size, 24, #[.int .i64 0, .int .i64 0]), (w.heap.size + 1, 24, #[.int .i64 0, .int .i64 0]), (w.heap.size, 22, #[.int .i64 x, .int .i64 y, .int .i64 z])]) := Lib.hid (Fr.box G3 22 #[.int .i64 p0, .int .i64 p1, .int .i64 p2])
  clear hb3 G3 F2
  go_wp2_with fail
  refine (HSZ.out _).mono ?_
  rintro e w4 ⟨rfl, hb4⟩
  clear k0_0 k0_1 k0_2 kz0 k1_0 k1_1 kf1 kg1 kz1 k2_0 k2_1 kf2 kg2 kz2
  have G4 := Fr.call F3.out hb4
  obtain ⟨k0_0, k0_1, k0_2⟩ := (G4.get 3 rfl).three
  have kz0 := (G4.get 3 rfl).lt
  obtain ⟨k1_0, k1_1, kf1, kg1⟩ := (G4.get 2 rfl).two
  have kz1 := (G4.get 2 rfl).lt
  obtain ⟨k2_0, k2_1, kf2, kg2⟩ := (G4.get 1 rfl).two
  have kz2 := (G4.get 1 rfl).lt
  obtain ⟨k3_0, k3_1, k3_2⟩ := (G4.get 0 rfl).three
  have kz3 := (G4.get 0 rfl).lt
  have F4 : Hid (Fr w _ [(w4.heap.size, 32, #[.int .i64 lo, .int .i64 up]), (w3.heap.size, 22, #[.int .i64 p0, .int .i64 p1, .int .i64 p2]), (w2.heap.size, 24, #[.int .i64 0, .int .i64 0]), (w.heap.size + 1, 24, #[.int .i64 0, .int .i64 0]), (w.heap.size, 22, #[.int .i64 x, .int .i64 y, .int .i64 z])]) := Lib.hid (Fr.box G4 32 #[.int .i64 lo, .int .i64 up])
  clear hb4 G4 F3
  go_wp2_with fail
  refine (HSE.out _).mono ?_
  rintro e w5 ⟨rfl, hb5⟩
  clear k0_0 k0_1 k0_2 kz0 k1_0 k1_1 kf1 kg1 kz1 k2_0 k2_1 kf2 kg2 kz2 k3_0 k3_1 k3_2 kz3
  have G5 := Fr.call F4.out hb5
  obtain ⟨k0_0, k0_1, k0_2⟩ := (G5.get 4 rfl).three
  have kz0 := (G5.get 4 rfl).lt
  obtain ⟨k1_0, k1_1, kf1, kg1⟩ := (G5.get 3 rfl).two
  have kz1 := (G5.get 3 rfl).lt
  obtain ⟨k2_0, k2_1, kf2, kg2⟩ := (G5.get 2 rfl).two
  have kz2 := (G5.get 2 rfl).lt
  obtain ⟨k3_0, k3_1, k3_2⟩ := (G5.get 1 rfl).three
  have kz3 := (G5.get 1 rfl).lt
  obtain ⟨k4_0, k4_1, kf4, kg4⟩ := (G5.get 0 rfl).two
  have kz4 := (G5.get 0 rfl).lt
  have F5 : Hid (Fr w _ [(w4.heap.size, 32, #[.int .i64 lo, .int .i64 up]), (w3.heap.size, 22, #[.int .i64 p0, .int .i64 p1, .int .i64 p2]), (w2.heap.size, 24, #[.int .i64 0, .int .i64 0]), (w.heap.size + 1, 24, #[.int .i64 0, .int .i64 0]), (w.heap.size, 22, #[.int .i64 x, .int .i64 y, .int .i64 z])]) := Lib.hid G5
  clear hb5 G5 F4
  go_wp2_with fail
  refine (HPE.out _).mono ?_
  rintro e w6 ⟨rfl, hb6⟩
  clear k0_0 k0_1 k0_2 kz0 k1_0 k1_1 kf1 kg1 kz1 k2_0 k2_1 kf2 kg2 kz2 k3_0 k3_1 k3_2 kz3 k4_0 k4_1 kf4 kg4 kz4
  have G6 := Fr.call F5.out hb6
  obtain ⟨k0_0, k0_1, k0_2⟩ := (G6.get 4 rfl).three
  have kz0 := (G6.get 4 rfl).lt
  obtain ⟨k1_0, k1_1, kf1, kg1⟩ := (G6.get 3 rfl).two
  have kz1 := (G6.get 3 rfl).lt
  obtain ⟨k2_0, k2_1, kf2, kg2⟩ := (G6.get 2 rfl).two
  have kz2 := (G6.get 2 rfl).lt
  obtain ⟨k3_0, k3_1, k3_2⟩ := (G6.get 1 rfl).three
  have kz3 := (G6.get 1 rfl).lt
  obtain ⟨k4_0, k4_1, kf4, kg4⟩ := (G6.get 0 rfl).two
  have kz4 := (G6.get 0 rfl).lt
  have F6 : Hid (Fr w _ [(w4.heap.size, 32, #[.int .i64 lo, .int .i64 up]), (w3.heap.size, 22, #[.int .i64 p0, .int .i64 p1, .int .i64 p2]), (w2.heap.size, 24, #[.int .i64 0, .int .i64 0]), (w.heap.size + 1, 24, #[.int .i64 0, .int .i64 0]), (w.heap.size, 22, #[.int .i64 x, .int .i64 y, .int .i64 z])]) := Lib.hid G6
  clear hb6 G6 F5
  go_wp2_with fail
  refine (HVE.out _).mono ?_
  rintro e w7 ⟨rfl, hb7⟩
  clear k0_0 k0_1 k0_2 kz0 k1_0 k1_1 kf1 kg1 kz1 k2_0 k2_1 kf2 kg2 kz2 k3_0 k3_1 k3_2 kz3 k4_0 k4_1 kf4 kg4 kz4
  have G7 := Fr.call F6.out hb7
  obtain ⟨k0_0, k0_1, k0_2⟩ := (G7.get 4 rfl).three
  have kz0 := (G7.get 4 rfl).lt
  obtain ⟨k1_0, k1_1, kf1, kg1⟩ := (G7.get 3 rfl).two
  have kz1 := (G7.get 3 rfl).lt
  obtain ⟨k2_0, k2_1, kf2, kg2⟩ := (G7.get 2 rfl).two
  have kz2 := (G7.get 2 rfl).lt
  obtain ⟨k3_0, k3_1, k3_2⟩ := (G7.get 1 rfl).three
  have kz3 := (G7.get 1 rfl).lt
  obtain ⟨k4_0, k4_1, kf4, kg4⟩ := (G7.get 0 rfl).two
  have kz4 := (G7.get 0 rfl).lt
  have F7 : Hid (Fr w _ [(w4.heap.size, 32, #[.int .i64 lo, .int .i64 up]), (w3.heap.size, 22, #[.int .i64 p0, .int .i64 p1, .int .i64 p2]), (w2.heap.size, 24, #[.int .i64 0, .int .i64 0]), (w.heap.size + 1, 24, #[.int .i64 0, .int .i64 0]), (w.heap.size, 22, #[.int .i64 x, .int .i64 y, .int .i64 z])]) := Lib.hid G7
  clear hb7 G7 F6
  go_upto_region 16 with fail
  go_cut [105] from 88 to 105 (fun r W => r = .bool false ∧ Fr w W [(w4.heap.size, 32, #[.int .i64 lo, .int .i64 up]), (w3.heap.size, 22, #[.int .i64 p0, .int .i64 p1, .int .i64 p2]), (w2.heap.size, 24, #[.int .i64 0, .int .i64 0]), (w.heap.size + 1, 24, #[.int .i64 0, .int .i64 0]), (w.heap.size, 22, #[.int .i64 x, .int .i64 y, .int .i64 z])])
  case first =>
    have HALL : Hid (∀ W, Fr w W [(w4.heap.size, 32, #[.int .i64 lo, .int .i64 up]), (w3.heap.size, 22, #[.int .i64 p0, .int .i64 p1, .int .i64 p2]), (w2.heap.size, 24, #[.int .i64 0, .int .i64 0]), (w.heap.size + 1, 24, #[.int .i64 0, .int .i64 0]), (w.heap.size, 22, #[.int .i64 x, .int .i64 y, .int .i64 z])] → Fr w W [(w4.heap.size, 32, #[.int .i64 lo, .int .i64 up]), (w3.heap.size, 22, #[.int .i64 p0, .int .i64 p1, .int .i64 p2]), (w2.heap.size, 24, #[.int .i64 0, .int .i64 0]), (w.heap.size + 1, 24, #[.int .i64 0, .int .i64 0]), (w.heap.size, 22, #[.int .i64 x, .int .i64 y, .int .i64 z])] ∧ W.cell? ⟨w.heap.size + 1, 0, none⟩ = some (.int .i64 0) ∧ W.cell? ⟨w.heap.size + 1, 1, none⟩ = some (.int .i64 0) ∧ W.cell? ⟨w3.heap.size, 0, none⟩ = some (.int .i64 p0) ∧ W.cell? ⟨w3.heap.size, 1, none⟩ = some (.int .i64 p1) ∧ W.cell? ⟨w3.heap.size, 2, none⟩ = some (.int .i64 p2) ∧ W.cell? ⟨w4.heap.size, 0, none⟩ = some (.int .i64 lo) ∧ W.cell? ⟨w4.heap.size, 1, none⟩ = some (.int .i64 up)) := Lib.hid (fun W hW => ⟨hW, (hW.get 3 rfl).cell 0, (hW.get 3 rfl).cell 1, (hW.get 1 rfl).cell 0, (hW.get 1 rfl).cell 1, (hW.get 1 rfl).cell 2, (hW.get 0 rfl).cell 0, (hW.get 0 rfl).cell 1⟩)
    have F10 : Fr w _ [(w4.heap.size, 32, #[.int .i64 lo, .int .i64 up]), (w3.heap.size, 22, #[.int .i64 p0, .int .i64 p1, .int .i64 p2]), (w2.heap.size, 24, #[.int .i64 0, .int .i64 0]), (w.heap.size + 1, 24, #[.int .i64 0, .int .i64 0]), (w.heap.size, 22, #[.int .i64 x, .int .i64 y, .int .i64 z])] := F7.out
    clear F7
    go_region_held3 (fun W => Fr w W [(w4.heap.size, 32, #[.int .i64 lo, .int .i64 up]), (w3.heap.size, 22, #[.int .i64 p0, .int .i64 p1, .int .i64 p2]), (w2.heap.size, 24, #[.int .i64 0, .int .i64 0]), (w.heap.size + 1, 24, #[.int .i64 0, .int .i64 0]), (w.heap.size, 22, #[.int .i64 x, .int .i64 y, .int .i64 z])] ∧ W.cell? ⟨w.heap.size + 1, 0, none⟩ = some (.int .i64 0) ∧ W.cell? ⟨w.heap.size + 1, 1, none⟩ = some (.int .i64 0) ∧ W.cell? ⟨w3.heap.size, 0, none⟩ = some (.int .i64 p0) ∧ W.cell? ⟨w3.heap.size, 1, none⟩ = some (.int .i64 p1) ∧ W.cell? ⟨w3.heap.size, 2, none⟩ = some (.int .i64 p2) ∧ W.cell? ⟨w4.heap.size, 0, none⟩ = some (.int .i64 lo) ∧ W.cell? ⟨w4.heap.size, 1, none⟩ = some (.int .i64 up))
      ((go_split_ands; refine HALL.out _ ?_; (first | assumption | (repeat (first | assumption | refine Fr.new ?_ _ | refine Fr.drew ?_ | (refine Fr.set ?_ (by first | exact Nat.le_refl _ | omega | (simp; done) | (simp; omega)) (by first | (simp; done) | (simp; omega)) _))); done)))
      ((first
        | (go_at_call 20; go_split_ands; (with_reducible refine (HRP.out _).mono ?_); rintro e w1 ⟨rfl, hb1⟩; have F4 := Fr.call (by assumption) hb1; clear hb1)
        | (go_at_call 21; go_split_ands; (with_reducible refine (HRS.out _).mono ?_); rintro e w1 ⟨rfl, hb1⟩; have F4 := Fr.call (by assumption) hb1; clear hb1)
        | fail "arm"))
    all_goals
      go_split_ands
      go_wp2_with fail
      go_meet
      exact ⟨rfl, by assumption⟩
  case rest =>
    obtain ⟨wx, rfl⟩ : ∃ W, W = wc := ⟨_, rfl⟩
    obtain ⟨rfl, hx⟩ := hcut
    have FC16 : Hid (Fr w _ [(w4.heap.size, 32, #[.int .i64 lo, .int .i64 up]), (w3.heap.size, 22, #[.int .i64 p0, .int .i64 p1, .int .i64 p2]), (w2.heap.size, 24, #[.int .i64 0, .int .i64 0]), (w.heap.size + 1, 24, #[.int .i64 0, .int .i64 0]), (w.heap.size, 22, #[.int .i64 x, .int .i64 y, .int .i64 z])]) := Lib.hid hx
    clear k0_0 k0_1 k0_2 kz0 k1_0 k1_1 kf1 kg1 kz1 k2_0 k2_1 kf2 kg2 kz2 k3_0 k3_1 k3_2 kz3 k4_0 k4_1 kf4 kg4 kz4 hx F7
    obtain ⟨k0_0, k0_1, k0_2⟩ := (FC16.out.get 4 rfl).three
    have kz0 := (FC16.out.get 4 rfl).lt
    obtain ⟨k1_0, k1_1, kf1, kg1⟩ := (FC16.out.get 3 rfl).two
    have kz1 := (FC16.out.get 3 rfl).lt
    obtain ⟨k2_0, k2_1, kf2, kg2⟩ := (FC16.out.get 2 rfl).two
    have kz2 := (FC16.out.get 2 rfl).lt
    obtain ⟨k3_0, k3_1, k3_2⟩ := (FC16.out.get 1 rfl).three
    have kz3 := (FC16.out.get 1 rfl).lt
    obtain ⟨k4_0, k4_1, kf4, kg4⟩ := (FC16.out.get 0 rfl).two
    have kz4 := (FC16.out.get 0 rfl).lt
    go_wp2_with fail
    go_ret
    exact ⟨rfl, FC16.out.bl⟩
end Go.Proofs.YtemjefhfplaibaaDoor
