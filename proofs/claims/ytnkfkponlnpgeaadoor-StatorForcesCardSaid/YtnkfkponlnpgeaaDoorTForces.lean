/-
  The walk of StatorForces.
-/
import Derived.Test.YtnkfkponlnpgeaaDoorTAwk
import Derived.Test.YtnkfkponlnpgeaaDoorTRefF
namespace Go.Proofs.YtnkfkponlnpgeaaDoor
open Go.RowKit

set_option maxHeartbeats 4000000 in
set_option maxRecDepth 100000 in
theorem StatorForces_any (c f : T3) (w : World) (hT : Tab w) : Calls Tryd.prog 5 #[(.agg #[.int .i64 c.a, .int .i64 c.b]), (.agg #[.int .i64 f.a, .int .i64 f.b])] w fun e w' => e = .returned (.bool true) ∧ Below w.heap.size w w' := by
  have F0 := Lib.hid (Fr.b2 w 24 #[.int .i64 c.a, .int .i64 c.b] 24 #[.int .i64 f.a, .int .i64 f.b])
  have T0 := Lib.hid ((hT.new (.cells #[.int .i64 c.a, .int .i64 c.b] 24)).new (.cells #[.int .i64 f.a, .int .i64 f.b] 24))
  clear hT
  cases hc : okT c with
  | false =>
    have HV : Hid (vsE [c, f] = 2) := Lib.hid (by rw [vs2, if_neg (by rw [hc]; simp)])
    have HE := Lib.hid (vE_bad hc)
    clear hc
    go_enter Tryd.func5, Tryd.ntmps5
    go_wp2_with fail
    refine (awake_any _ T0.out).mono ?_
    rintro e w1 ⟨rfl, hb1⟩
    have G1 := Fr.call F0.out hb1
    obtain ⟨k0_0, k0_1, kf0, kg0⟩ := (G1.get 1 rfl).two
    have kz0 := (G1.get 1 rfl).lt
    obtain ⟨k1_0, k1_1, kf1, kg1⟩ := (G1.get 0 rfl).two
    have kz1 := (G1.get 0 rfl).lt
    have F1 : Hid (Fr w _ [(w.heap.size + 1, 24, #[.int .i64 f.a, .int .i64 f.b]), (w.heap.size, 24, #[.int .i64 c.a, .int .i64 c.b])]) := Lib.hid G1
    clear hb1 G1 F0
    go_wp2_with fail
    refine (ForceOf_any c f _).mono ?_
    rintro e w2 ⟨rfl, hb2⟩
    rw [HV.out]
    clear k0_0 k0_1 kf0 kg0 kz0 k1_0 k1_1 kf1 kg1 kz1
    have G2 := Fr.call F1.out hb2
    obtain ⟨k0_0, k0_1, kf0, kg0⟩ := (G2.get 1 rfl).two
    have kz0 := (G2.get 1 rfl).lt
    obtain ⟨k1_0, k1_1, kf1, kg1⟩ := (G2.get 0 rfl).two
    have kz1 := (G2.get 0 rfl).lt
    have F2 : Hid (Fr w _ [(w.heap.size + 1, 24, #[.int .i64 f.a, .int .i64 f.b]), (w.heap.size, 24, #[.int .i64 c.a, .int .i64 c.b])]) := Lib.hid G2
    clear hb2 G2 F1
    go_wp2_with fail
    refine (MarginOf_any c f _).mono ?_
    rintro e w3 ⟨rfl, hb3⟩
    rw [HV.out]
    clear k0_0 k0_1 kf0 kg0 kz0 k1_0 k1_1 kf1 kg1 kz1
    have G3 := Fr.call F2.out hb3
    obtain ⟨k0_0, k0_1, kf0, kg0⟩ := (G3.get 1 rfl).two
    have kz0 := (G3.get 1 rfl).lt
    obtain ⟨k1_0, k1_1, kf1, kg1⟩ := (G3.get 0 rfl).two
    have kz1 := (G3.get 0 rfl).lt
    have F3 : Hid (Fr w _ [(w.heap.size + 1, 24, #[.int .i64 f.a, .int .i64 f.b]), (w.heap.size, 24, #[.int .i64 c.a, .int .i64 c.b])]) := Lib.hid G3
    clear hb3 G3 F2
    go_wp2_with fail
    refine (VectorErr_any c _).mono ?_
    rintro e w4 ⟨rfl, hb4⟩
    rw [HE.out]
    clear k0_0 k0_1 kf0 kg0 kz0 k1_0 k1_1 kf1 kg1 kz1
    have G4 := Fr.call F3.out hb4
    obtain ⟨k0_0, k0_1, kf0, kg0⟩ := (G4.get 1 rfl).two
    have kz0 := (G4.get 1 rfl).lt
    obtain ⟨k1_0, k1_1, kf1, kg1⟩ := (G4.get 0 rfl).two
    have kz1 := (G4.get 0 rfl).lt
    have F4 : Hid (Fr w _ [(w.heap.size + 1, 24, #[.int .i64 f.a, .int .i64 f.b]), (w.heap.size, 24, #[.int .i64 c.a, .int .i64 c.b])]) := Lib.hid G4
    clear hb4 G4 F3
    go_wp2_with fail
    go_ret
    exact ⟨rfl, F4.out.bl⟩
  | true =>
    cases hf : okT f with
    | false =>
      have HV : Hid (vsE [c, f] = 2) := Lib.hid (by rw [vs2, if_neg (by rw [hf]; simp)])
      have HE := Lib.hid (vE_ok hc)
      have HE2 := Lib.hid (vE_bad hf)
      clear hc hf
      go_enter Tryd.func5, Tryd.ntmps5
      go_wp2_with fail
      refine (awake_any _ T0.out).mono ?_
      rintro e w1 ⟨rfl, hb1⟩
      have G1 := Fr.call F0.out hb1
      obtain ⟨k0_0, k0_1, kf0, kg0⟩ := (G1.get 1 rfl).two
      have kz0 := (G1.get 1 rfl).lt
      obtain ⟨k1_0, k1_1, kf1, kg1⟩ := (G1.get 0 rfl).two
      have kz1 := (G1.get 0 rfl).lt
      have F1 : Hid (Fr w _ [(w.heap.size + 1, 24, #[.int .i64 f.a, .int .i64 f.b]), (w.heap.size, 24, #[.int .i64 c.a, .int .i64 c.b])]) := Lib.hid G1
      clear hb1 G1 F0
      go_wp2_with fail
      refine (ForceOf_any c f _).mono ?_
      rintro e w2 ⟨rfl, hb2⟩
      rw [HV.out]
      clear k0_0 k0_1 kf0 kg0 kz0 k1_0 k1_1 kf1 kg1 kz1
      have G2 := Fr.call F1.out hb2
      obtain ⟨k0_0, k0_1, kf0, kg0⟩ := (G2.get 1 rfl).two
      have kz0 := (G2.get 1 rfl).lt
      obtain ⟨k1_0, k1_1, kf1, kg1⟩ := (G2.get 0 rfl).two
      have kz1 := (G2.get 0 rfl).lt
      have F2 : Hid (Fr w _ [(w.heap.size + 1, 24, #[.int .i64 f.a, .int .i64 f.b]), (w.heap.size, 24, #[.int .i64 c.a, .int .i64 c.b])]) := Lib.hid G2
      clear hb2 G2 F1
      go_wp2_with fail
      refine (MarginOf_any c f _).mono ?_
      rintro e w3 ⟨rfl, hb3⟩
      rw [HV.out]
      clear k0_0 k0_1 kf0 kg0 kz0 k1_0 k1_1 kf1 kg1 kz1
      have G3 := Fr.call F2.out hb3
      obtain ⟨k0_0, k0_1, kf0, kg0⟩ := (G3.get 1 rfl).two
      have kz0 := (G3.get 1 rfl).lt
      obtain ⟨k1_0, k1_1, kf1, kg1⟩ := (G3.get 0 rfl).two
      have kz1 := (G3.get 0 rfl).lt
      have F3 : Hid (Fr w _ [(w.heap.size + 1, 24, #[.int .i64 f.a, .int .i64 f.b]), (w.heap.size, 24, #[.int .i64 c.a, .int .i64 c.b])]) := Lib.hid G3
      clear hb3 G3 F2
      go_wp2_with fail
      refine (VectorErr_any c _).mono ?_
      rintro e w4 ⟨rfl, hb4⟩
      rw [HE.out]
      clear k0_0 k0_1 kf0 kg0 kz0 k1_0 k1_1 kf1 kg1 kz1
      have G4 := Fr.call F3.out hb4
      obtain ⟨k0_0, k0_1, kf0, kg0⟩ := (G4.get 1 rfl).two
      have kz0 := (G4.get 1 rfl).lt
      obtain ⟨k1_0, k1_1, kf1, kg1⟩ := (G4.get 0 rfl).two
      have kz1 := (G4.get 0 rfl).lt
      have F4 : Hid (Fr w _ [(w.heap.size + 1, 24, #[.int .i64 f.a, .int .i64 f.b]), (w.heap.size, 24, #[.int .i64 c.a, .int .i64 c.b])]) := Lib.hid G4
      clear hb4 G4 F3
      go_wp2_with fail
      refine (VectorErr_any f _).mono ?_
      rintro e w5 ⟨rfl, hb5⟩
      rw [HE2.out]
      clear k0_0 k0_1 kf0 kg0 kz0 k1_0 k1_1 kf1 kg1 kz1
      have G5 := Fr.call F4.out hb5
      obtain ⟨k0_0, k0_1, kf0, kg0⟩ := (G5.get 1 rfl).two
      have kz0 := (G5.get 1 rfl).lt
      obtain ⟨k1_0, k1_1, kf1, kg1⟩ := (G5.get 0 rfl).two
      have kz1 := (G5.get 0 rfl).lt
      have F5 : Hid (Fr w _ [(w.heap.size + 1, 24, #[.int .i64 f.a, .int .i64 f.b]), (w.heap.size, 24, #[.int .i64 c.a, .int .i64 c.b])]) := Lib.hid G5
      clear hb5 G5 F4
      go_wp2_with fail
      go_ret
      exact ⟨rfl, F5.out.bl⟩
    | true =>
      have HV : Hid (vsE [c, f] = 0) := Lib.hid (by rw [vs2, if_pos ⟨hc, hf⟩])
      have HE := Lib.hid (vE_ok hc)
      have HE2 := Lib.hid (vE_ok hf)
      have HC := Lib.hid (okT_bd hc)
      have HF := Lib.hid (okT_bd hf)
      clear hc hf
      go_enter Tryd.func5, Tryd.ntmps5
      go_wp2_with fail
      refine (awake_any _ T0.out).mono ?_
      rintro e w1 ⟨rfl, hb1⟩
      have G1 := Fr.call F0.out hb1
      obtain ⟨k0_0, k0_1, kf0, kg0⟩ := (G1.get 1 rfl).two
      have kz0 := (G1.get 1 rfl).lt
      obtain ⟨k1_0, k1_1, kf1, kg1⟩ := (G1.get 0 rfl).two
      have kz1 := (G1.get 0 rfl).lt
      have F1 : Hid (Fr w _ [(w.heap.size + 1, 24, #[.int .i64 f.a, .int .i64 f.b]), (w.heap.size, 24, #[.int .i64 c.a, .int .i64 c.b])]) := Lib.hid G1
      clear hb1 G1 F0
      go_wp2_with fail
      refine (ForceOf_any c f _).mono ?_
      rintro e w2 ⟨rfl, hb2⟩
      rw [HV.out]
      clear k0_0 k0_1 kf0 kg0 kz0 k1_0 k1_1 kf1 kg1 kz1
      have G2 := Fr.call F1.out hb2
      obtain ⟨k0_0, k0_1, kf0, kg0⟩ := (G2.get 1 rfl).two
      have kz0 := (G2.get 1 rfl).lt
      obtain ⟨k1_0, k1_1, kf1, kg1⟩ := (G2.get 0 rfl).two
      have kz1 := (G2.get 0 rfl).lt
      have F2 : Hid (Fr w _ [(w.heap.size + 1, 24, #[.int .i64 f.a, .int .i64 f.b]), (w.heap.size, 24, #[.int .i64 c.a, .int .i64 c.b])]) := Lib.hid G2
      clear hb2 G2 F1
      go_wp2_with fail
      refine (MarginOf_any c f _).mono ?_
      rintro e w3 ⟨rfl, hb3⟩
      rw [HV.out]
      clear k0_0 k0_1 kf0 kg0 kz0 k1_0 k1_1 kf1 kg1 kz1
      have G3 := Fr.call F2.out hb3
      obtain ⟨k0_0, k0_1, kf0, kg0⟩ := (G3.get 1 rfl).two
      have kz0 := (G3.get 1 rfl).lt
      obtain ⟨k1_0, k1_1, kf1, kg1⟩ := (G3.get 0 rfl).two
      have kz1 := (G3.get 0 rfl).lt
      have F3 : Hid (Fr w _ [(w.heap.size + 1, 24, #[.int .i64 f.a, .int .i64 f.b]), (w.heap.size, 24, #[.int .i64 c.a, .int .i64 c.b])]) := Lib.hid G3
      clear hb3 G3 F2
      go_wp2_with fail
      refine (VectorErr_any c _).mono ?_
      rintro e w4 ⟨rfl, hb4⟩
      rw [HE.out]
      clear k0_0 k0_1 kf0 kg0 kz0 k1_0 k1_1 kf1 kg1 kz1
      have G4 := Fr.call F3.out hb4
      obtain ⟨k0_0, k0_1, kf0, kg0⟩ := (G4.get 1 rfl).two
      have kz0 := (G4.get 1 rfl).lt
      obtain ⟨k1_0, k1_1, kf1, kg1⟩ := (G4.get 0 rfl).two
      have kz1 := (G4.get 0 rfl).lt
      have F4 : Hid (Fr w _ [(w.heap.size + 1, 24, #[.int .i64 f.a, .int .i64 f.b]), (w.heap.size, 24, #[.int .i64 c.a, .int .i64 c.b])]) := Lib.hid G4
      clear hb4 G4 F3
      go_wp2_with fail
      refine (VectorErr_any f _).mono ?_
      rintro e w5 ⟨rfl, hb5⟩
      rw [HE2.out]
      clear k0_0 k0_1 kf0 kg0 kz0 k1_0 k1_1 kf1 kg1 kz1
      have G5 := Fr.call F4.out hb5
      obtain ⟨k0_0, k0_1, kf0, kg0⟩ := (G5.get 1 rfl).two
      have kz0 := (G5.get 1 rfl).lt
      obtain ⟨k1_0, k1_1, kf1, kg1⟩ := (G5.get 0 rfl).two
      have kz1 := (G5.get 0 rfl).lt
      have F5 : Hid (Fr w _ [(w.heap.size + 1, 24, #[.int .i64 f.a, .int .i64 f.b]), (w.heap.size, 24, #[.int .i64 c.a, .int .i64 c.b])]) := Lib.hid G5
      clear hb5 G5 F4
      go_wp2_with fail
      refine (refForceOf_any c f (HC.out.more (by omega)) (HF.out.more (by omega)) _).mono ?_
      rintro e w6 ⟨rfl, hb6⟩
      clear k0_0 k0_1 kf0 kg0 kz0 k1_0 k1_1 kf1 kg1 kz1
      have G6 := Fr.call F5.out hb6
      obtain ⟨k0_0, k0_1, kf0, kg0⟩ := (G6.get 1 rfl).two
      have kz0 := (G6.get 1 rfl).lt
      obtain ⟨k1_0, k1_1, kf1, kg1⟩ := (G6.get 0 rfl).two
      have kz1 := (G6.get 0 rfl).lt
      have F6 : Hid (Fr w _ [(w.heap.size + 1, 24, #[.int .i64 f.a, .int .i64 f.b]), (w.heap.size, 24, #[.int .i64 c.a, .int .i64 c.b])]) := Lib.hid G6
      clear hb6 G6 F5
      go_wp2_with fail
      refine (refMarginOf_any c f HC.out HF.out _).mono ?_
      rintro e w7 ⟨rfl, hb7⟩
      clear k0_0 k0_1 kf0 kg0 kz0 k1_0 k1_1 kf1 kg1 kz1
      have G7 := Fr.call F6.out hb7
      obtain ⟨k0_0, k0_1, kf0, kg0⟩ := (G7.get 1 rfl).two
      have kz0 := (G7.get 1 rfl).lt
      obtain ⟨k1_0, k1_1, kf1, kg1⟩ := (G7.get 0 rfl).two
      have kz1 := (G7.get 0 rfl).lt
      have F7 : Hid (Fr w _ [(w.heap.size + 1, 24, #[.int .i64 f.a, .int .i64 f.b]), (w.heap.size, 24, #[.int .i64 c.a, .int .i64 c.b])]) := Lib.hid G7
      clear hb7 G7 F6
      go_wp2_with fail
      go_ret
      exact ⟨rfl, F7.out.bl⟩
end Go.Proofs.YtnkfkponlnpgeaaDoor
