
/-
  The walk of StatorChanges.
-/
import Derived.Test.YtemjefhfplaibaaDoorTHd
import Derived.Test.YtemjefhfplaibaaDoorTHdR
namespace Go.Proofs.YtemjefhfplaibaaDoor
open Go.RowKit

theorem Same_hd (f t : T3) (s : Int) (n : Nat) (hn : n ≤ 1000) (A B : Option Addr) (c d : Nat) (w : World) (hA : Lies w w.heap.size A ((hdL f t s n).flatMap tc)) (hB : Lies w w.heap.size B ((hdL f t s n).flatMap tc)) :
    Calls Tryd.prog 47 #[.slice A n c, .slice B n d] w fun e w' => e = .returned (.bool true) ∧ Below w.heap.size w w' := by
  have := Same_same (hdL f t s n) A B c d (by rw [hdL_len]; unfold maxLen; omega) w hA hB
  rw [hdL_len] at this
  exact this

set_option maxHeartbeats 4000000 in
set_option maxRecDepth 100000 in
theorem changes_many (f t : T3) (s : Int) (h0 : 30 < s) (h1 : s ≤ 100) (w : World) (hT : Tab w) : Calls Tryd.prog 8 #[(.agg #[.int .i64 f.a, .int .i64 f.b]), (.agg #[.int .i64 t.a, .int .i64 t.b]), .int .i64 s] w fun e w' => e = .returned (.bool true) ∧ Below w.heap.size w w' := by
  have F0 := Lib.hid (Fr.b2 w 24 #[.int .i64 f.a, .int .i64 f.b] 24 #[.int .i64 t.a, .int .i64 t.b])
  have T0 := Lib.hid ((hT.new (.cells #[.int .i64 f.a, .int .i64 f.b] 24)).new (.cells #[.int .i64 t.a, .int .i64 t.b] 24))
  clear hT
  go_enter Tryd.func8, Tryd.ntmps8
  go_wp2_with fail
  refine (awake_any _ T0.out).mono ?_
  rintro e w1 ⟨rfl, hb1⟩
  have G1 := Fr.call F0.out hb1
  obtain ⟨k0_0, k0_1, kf0, kg0⟩ := (G1.get 1 rfl).two
  have kz0 := (G1.get 1 rfl).lt
  obtain ⟨k1_0, k1_1, kf1, kg1⟩ := (G1.get 0 rfl).two
  have kz1 := (G1.get 0 rfl).lt
  have F1 : Hid (Fr w _ [(w.heap.size + 1, 24, #[.int .i64 t.a, .int .i64 t.b]), (w.heap.size, 24, #[.int .i64 f.a, .int .i64 f.b])]) := Lib.hid G1
  clear hb1 G1 F0
  go_wp2_with fail
  go_ret
  exact ⟨rfl, F1.out.bl⟩

set_option maxHeartbeats 4000000 in
set_option maxRecDepth 100000 in
theorem changes_from (f t : T3) (s : Int) (hs : s ≤ 30 ∨ 100 < s) (hf : okT f = false) (w : World) (hT : Tab w) : Calls Tryd.prog 8 #[(.agg #[.int .i64 f.a, .int .i64 f.b]), (.agg #[.int .i64 t.a, .int .i64 t.b]), .int .i64 s] w fun e w' => e = .returned (.bool true) ∧ Below w.heap.size w w' := by
  have F0 := Lib.hid (Fr.b2 w 24 #[.int .i64 f.a, .int .i64 f.b] 24 #[.int .i64 t.a, .int .i64 t.b])
  have T0 := Lib.hid ((hT.new (.cells #[.int .i64 f.a, .int .i64 f.b] 24)).new (.cells #[.int .i64 t.a, .int .i64 t.b] 24))
  clear hT
  have HHB : Hid (∀ w, Calls Tryd.prog 46 #[(.agg #[.int .i64 f.a, .int .i64 f.b]), (.agg #[.int .i64 t.a, .int .i64 t.b]), .int .i64 s] w fun e w' => e = .returned (.tuple #[.slice none 0 0, .int .i64 2]) ∧ Below w.heap.size w w') := Lib.hid (fun w => Handed_bad f t s (.inl (by rw [hf]; simp)) w)
  have HEF := Lib.hid (vE_bad hf)
  clear hf
  go_enter Tryd.func8, Tryd.ntmps8
  go_wp2_with fail
  refine (awake_any _ T0.out).mono ?_
  rintro e w1 ⟨rfl, hb1⟩
  have G1 := Fr.call F0.out hb1
  obtain ⟨k0_0, k0_1, kf0, kg0⟩ := (G1.get 1 rfl).two
  have kz0 := (G1.get 1 rfl).lt
  obtain ⟨k1_0, k1_1, kf1, kg1⟩ := (G1.get 0 rfl).two
  have kz1 := (G1.get 0 rfl).lt
  have F1 : Hid (Fr w _ [(w.heap.size + 1, 24, #[.int .i64 t.a, .int .i64 t.b]), (w.heap.size, 24, #[.int .i64 f.a, .int .i64 f.b])]) := Lib.hid G1
  clear hb1 G1 F0
  go_upto_region 3 with fail
  go_cut [20] from 15 to 20 (fun r W => r = .bool false ∧ Fr w W [(w.heap.size + 1, 24, #[.int .i64 t.a, .int .i64 t.b]), (w.heap.size, 24, #[.int .i64 f.a, .int .i64 f.b])])
  case first =>
    rcases hs with hs | hs
    all_goals
      go_wp2_with fail
      go_meet
      exact ⟨by first | rfl | exact congrArg Value.bool (by simp only [Bool.or_eq_false_iff, decide_eq_false_iff_not]; omega), F1.out⟩
  case rest =>
    obtain ⟨wx, rfl⟩ : ∃ W, W = wc := ⟨_, rfl⟩
    obtain ⟨rfl, hx⟩ := hcut
    have FC3 : Hid (Fr w _ [(w.heap.size + 1, 24, #[.int .i64 t.a, .int .i64 t.b]), (w.heap.size, 24, #[.int .i64 f.a, .int .i64 f.b])]) := Lib.hid hx
    clear k0_0 k0_1 kf0 kg0 kz0 k1_0 k1_1 kf1 kg1 kz1 hx F1
    obtain ⟨k0_0, k0_1, kf0, kg0⟩ := (FC3.out.get 1 rfl).two
    have kz0 := (FC3.out.get 1 rfl).lt
    obtain ⟨k1_0, k1_1, kf1, kg1⟩ := (FC3.out.get 0 rfl).two
    have kz1 := (FC3.out.get 0 rfl).lt
    go_wp2_with fail
    refine (HHB.out _).mono ?_
    rintro e w2 ⟨rfl, hb2⟩
    clear k0_0 k0_1 kf0 kg0 kz0 k1_0 k1_1 kf1 kg1 kz1
    have G2 := Fr.call FC3.out hb2
    obtain ⟨k0_0, k0_1, kf0, kg0⟩ := (G2.get 1 rfl).two
    have kz0 := (G2.get 1 rfl).lt
    obtain ⟨k1_0, k1_1, kf1, kg1⟩ := (G2.get 0 rfl).two
    have kz1 := (G2.get 0 rfl).lt
    have F2 : Hid (Fr w _ [(w.heap.size + 1, 24, #[.int .i64 t.a, .int .i64 t.b]), (w.heap.size, 24, #[.int .i64 f.a, .int .i64 f.b])]) := Lib.hid G2
    clear hb2 G2 FC3
    go_wp2_with fail
    refine (VectorErr_any f _).mono ?_
    rintro e w3 ⟨rfl, hb3⟩
    rw [HEF.out]
    clear k0_0 k0_1 kf0 kg0 kz0 k1_0 k1_1 kf1 kg1 kz1
    have G3 := Fr.call F2.out hb3
    obtain ⟨k0_0, k0_1, kf0, kg0⟩ := (G3.get 1 rfl).two
    have kz0 := (G3.get 1 rfl).lt
    obtain ⟨k1_0, k1_1, kf1, kg1⟩ := (G3.get 0 rfl).two
    have kz1 := (G3.get 0 rfl).lt
    have F3 : Hid (Fr w _ [(w.heap.size + 1, 24, #[.int .i64 t.a, .int .i64 t.b]), (w.heap.size, 24, #[.int .i64 f.a, .int .i64 f.b])]) := Lib.hid G3
    clear hb3 G3 F2
    go_wp2_with fail
    go_ret
    exact ⟨rfl, F3.out.bl⟩

set_option maxHeartbeats 4000000 in
set_option maxRecDepth 100000 in
theorem changes_to (f t : T3) (s : Int) (hs : s ≤ 30 ∨ 100 < s) (hf : okT f = true) (ht : okT t = false) (w : World) (hT : Tab w) : Calls Tryd.prog 8 #[(.agg #[.int .i64 f.a, .int .i64 f.b]), (.agg #[.int .i64 t.a, .int .i64 t.b]), .int .i64 s] w fun e w' => e = .returned (.bool true) ∧ Below w.heap.size w w' := by
  have F0 := Lib.hid (Fr.b2 w 24 #[.int .i64 f.a, .int .i64 f.b] 24 #[.int .i64 t.a, .int .i64 t.b])
  have T0 := Lib.hid ((hT.new (.cells #[.int .i64 f.a, .int .i64 f.b] 24)).new (.cells #[.int .i64 t.a, .int .i64 t.b] 24))
  clear hT
  have HHB : Hid (∀ w, Calls Tryd.prog 46 #[(.agg #[.int .i64 f.a, .int .i64 f.b]), (.agg #[.int .i64 t.a, .int .i64 t.b]), .int .i64 s] w fun e w' => e = .returned (.tuple #[.slice none 0 0, .int .i64 2]) ∧ Below w.heap.size w w') := Lib.hid (fun w => Handed_bad f t s (.inl (by rw [ht]; simp)) w)
  have HEF := Lib.hid (vE_ok hf)
  have HET := Lib.hid (vE_bad ht)
  clear hf ht
  go_enter Tryd.func8, Tryd.ntmps8
  go_wp2_with fail
  refine (awake_any _ T0.out).mono ?_
  rintro e w1 ⟨rfl, hb1⟩
  have G1 := Fr.call F0.out hb1
  obtain ⟨k0_0, k0_1, kf0, kg0⟩ := (G1.get 1 rfl).two
  have kz0 := (G1.get 1 rfl).lt
  obtain ⟨k1_0, k1_1, kf1, kg1⟩ := (G1.get 0 rfl).two
  have kz1 := (G1.get 0 rfl).lt
  have F1 : Hid (Fr w _ [(w.heap.size + 1, 24, #[.int .i64 t.a, .int .i64 t.b]), (w.heap.size, 24, #[.int .i64 f.a, .int .i64 f.b])]) := Lib.hid G1
  clear hb1 G1 F0
  go_upto_region 3 with fail
  go_cut [20] from 15 to 20 (fun r W => r = .bool false ∧ Fr w W [(w.heap.size + 1, 24, #[.int .i64 t.a, .int .i64 t.b]), (w.heap.size, 24, #[.int .i64 f.a, .int .i64 f.b])])
  case first =>
    rcases hs with hs | hs
    all_goals
      go_wp2_with fail
      go_meet
      exact ⟨by first | rfl | exact congrArg Value.bool (by simp only [Bool.or_eq_false_iff, decide_eq_false_iff_not]; omega), F1.out⟩
  case rest =>
    obtain ⟨wx, rfl⟩ : ∃ W, W = wc := ⟨_, rfl⟩
    obtain ⟨rfl, hx⟩ := hcut
    have FC3 : Hid (Fr w _ [(w.heap.size + 1, 24, #[.int .i64 t.a, .int .i64 t.b]), (w.heap.size, 24, #[.int .i64 f.a, .int .i64 f.b])]) := Lib.hid hx
    clear k0_0 k0_1 kf0 kg0 kz0 k1_0 k1_1 kf1 kg1 kz1 hx F1
    obtain ⟨k0_0, k0_1, kf0, kg0⟩ := (FC3.out.get 1 rfl).two
    have kz0 := (FC3.out.get 1 rfl).lt
    obtain ⟨k1_0, k1_1, kf1, kg1⟩ := (FC3.out.get 0 rfl).two
    have kz1 := (FC3.out.get 0 rfl).lt
    go_wp2_with fail
    refine (HHB.out _).mono ?_
    rintro e w2 ⟨rfl, hb2⟩
    clear k0_0 k0_1 kf0 kg0 kz0 k1_0 k1_1 kf1 kg1 kz1
    have G2 := Fr.call FC3.out hb2
    obtain ⟨k0_0, k0_1, kf0, kg0⟩ := (G2.get 1 rfl).two
    have kz0 := (G2.get 1 rfl).lt
    obtain ⟨k1_0, k1_1, kf1, kg1⟩ := (G2.get 0 rfl).two
    have kz1 := (G2.get 0 rfl).lt
    have F2 : Hid (Fr w _ [(w.heap.size + 1, 24, #[.int .i64 t.a, .int .i64 t.b]), (w.heap.size, 24, #[.int .i64 f.a, .int .i64 f.b])]) := Lib.hid G2
    clear hb2 G2 FC3
    go_wp2_with fail
    refine (VectorErr_any f _).mono ?_
    rintro e w3 ⟨rfl, hb3⟩
    rw [HEF.out]
    clear k0_0 k0_1 kf0 kg0 kz0 k1_0 k1_1 kf1 kg1 kz1
    have G3 := Fr.call F2.out hb3
    obtain ⟨k0_0, k0_1, kf0, kg0⟩ := (G3.get 1 rfl).two
    have kz0 := (G3.get 1 rfl).lt
    obtain ⟨k1_0, k1_1, kf1, kg1⟩ := (G3.get 0 rfl).two
    have kz1 := (G3.get 0 rfl).lt
    have F3 : Hid (Fr w _ [(w.heap.size + 1, 24, #[.int .i64 t.a, .int .i64 t.b]), (w.heap.size, 24, #[.int .i64 f.a, .int .i64 f.b])]) := Lib.hid G3
    clear hb3 G3 F2
    go_wp2_with fail
    refine (VectorErr_any t _).mono ?_
    rintro e w4 ⟨rfl, hb4⟩
    rw [HET.out]
    clear k0_0 k0_1 kf0 kg0 kz0 k1_0 k1_1 kf1 kg1 kz1
    have G4 := Fr.call F3.out hb4
    obtain ⟨k0_0, k0_1, kf0, kg0⟩ := (G4.get 1 rfl).two
    have kz0 := (G4.get 1 rfl).lt
    obtain ⟨k1_0, k1_1, kf1, kg1⟩ := (G4.get 0 rfl).two
    have kz1 := (G4.get 0 rfl).lt
    have F4 : Hid (Fr w _ [(w.heap.size + 1, 24, #[.int .i64 t.a, .int .i64 t.b]), (w.heap.size, 24, #[.int .i64 f.a, .int .i64 f.b])]) := Lib.hid G4
    clear hb4 G4 F3
    go_wp2_with fail
    go_ret
    exact ⟨rfl, F4.out.bl⟩

set_option maxHeartbeats 4000000 in
set_option maxRecDepth 100000 in
theorem changes_steps (f t : T3) (s : Int) (hs : s ≤ 30 ∨ 100 < s) (hf : okT f = true) (ht : okT t = true) (hi : inB s 1 100 = false) (w : World) (hT : Tab w) : Calls Tryd.prog 8 #[(.agg #[.int .i64 f.a, .int .i64 f.b]), (.agg #[.int .i64 t.a, .int .i64 t.b]), .int .i64 s] w fun e w' => e = .returned (.bool true) ∧ Below w.heap.size w w' := by
  have F0 := Lib.hid (Fr.b2 w 24 #[.int .i64 f.a, .int .i64 f.b] 24 #[.int .i64 t.a, .int .i64 t.b])
  have T0 := Lib.hid ((hT.new (.cells #[.int .i64 f.a, .int .i64 f.b] 24)).new (.cells #[.int .i64 t.a, .int .i64 t.b] 24))
  clear hT
  have HHB : Hid (∀ w, Calls Tryd.prog 46 #[(.agg #[.int .i64 f.a, .int .i64 f.b]), (.agg #[.int .i64 t.a, .int .i64 t.b]), .int .i64 s] w fun e w' => e = .returned (.tuple #[.slice none 0 0, .int .i64 2]) ∧ Below w.heap.size w w') := Lib.hid (fun w => Handed_bad f t s (.inr hi) w)
  have HEF := Lib.hid (vE_ok hf)
  have HET := Lib.hid (vE_ok ht)
  have HIN := Lib.hid hi
  clear hf ht hi
  go_enter Tryd.func8, Tryd.ntmps8
  go_wp2_with fail
  refine (awake_any _ T0.out).mono ?_
  rintro e w1 ⟨rfl, hb1⟩
  have G1 := Fr.call F0.out hb1
  obtain ⟨k0_0, k0_1, kf0, kg0⟩ := (G1.get 1 rfl).two
  have kz0 := (G1.get 1 rfl).lt
  obtain ⟨k1_0, k1_1, kf1, kg1⟩ := (G1.get 0 rfl).two
  have kz1 := (G1.get 0 rfl).lt
  have F1 : Hid (Fr w _ [(w.heap.size + 1, 24, #[.int .i64 t.a, .int .i64 t.b]), (w.heap.size, 24, #[.int .i64 f.a, .int .i64 f.b])]) := Lib.hid G1
  clear hb1 G1 F0
  go_upto_region 3 with fail
  go_cut [20] from 15 to 20 (fun r W => r = .bool false ∧ Fr w W [(w.heap.size + 1, 24, #[.int .i64 t.a, .int .i64 t.b]), (w.heap.size, 24, #[.int .i64 f.a, .int .i64 f.b])])
  case first =>
    rcases hs with hs | hs
    all_goals
      go_wp2_with fail
      go_meet
      exact ⟨by first | rfl | exact congrArg Value.bool (by simp only [Bool.or_eq_false_iff, decide_eq_false_iff_not]; omega), F1.out⟩
  case rest =>
    obtain ⟨wx, rfl⟩ : ∃ W, W = wc := ⟨_, rfl⟩
    obtain ⟨rfl, hx⟩ := hcut
    have FC3 : Hid (Fr w _ [(w.heap.size + 1, 24, #[.int .i64 t.a, .int .i64 t.b]), (w.heap.size, 24, #[.int .i64 f.a, .int .i64 f.b])]) := Lib.hid hx
    clear k0_0 k0_1 kf0 kg0 kz0 k1_0 k1_1 kf1 kg1 kz1 hx F1
    obtain ⟨k0_0, k0_1, kf0, kg0⟩ := (FC3.out.get 1 rfl).two
    have kz0 := (FC3.out.get 1 rfl).lt
    obtain ⟨k1_0, k1_1, kf1, kg1⟩ := (FC3.out.get 0 rfl).two
    have kz1 := (FC3.out.get 0 rfl).lt
    go_wp2_with fail
    refine (HHB.out _).mono ?_
    rintro e w2 ⟨rfl, hb2⟩
    clear k0_0 k0_1 kf0 kg0 kz0 k1_0 k1_1 kf1 kg1 kz1
    have G2 := Fr.call FC3.out hb2
    obtain ⟨k0_0, k0_1, kf0, kg0⟩ := (G2.get 1 rfl).two
    have kz0 := (G2.get 1 rfl).lt
    obtain ⟨k1_0, k1_1, kf1, kg1⟩ := (G2.get 0 rfl).two
    have kz1 := (G2.get 0 rfl).lt
    have F2 : Hid (Fr w _ [(w.heap.size + 1, 24, #[.int .i64 t.a, .int .i64 t.b]), (w.heap.size, 24, #[.int .i64 f.a, .int .i64 f.b])]) := Lib.hid G2
    clear hb2 G2 FC3
    go_wp2_with fail
    refine (VectorErr_any f _).mono ?_
    rintro e w3 ⟨rfl, hb3⟩
    rw [HEF.out]
    clear k0_0 k0_1 kf0 kg0 kz0 k1_0 k1_1 kf1 kg1 kz1
    have G3 := Fr.call F2.out hb3
    obtain ⟨k0_0, k0_1, kf0, kg0⟩ := (G3.get 1 rfl).two
    have kz0 := (G3.get 1 rfl).lt
    obtain ⟨k1_0, k1_1, kf1, kg1⟩ := (G3.get 0 rfl).two
    have kz1 := (G3.get 0 rfl).lt
    have F3 : Hid (Fr w _ [(w.heap.size + 1, 24, #[.int .i64 t.a, .int .i64 t.b]), (w.heap.size, 24, #[.int .i64 f.a, .int .i64 f.b])]) := Lib.hid G3
    clear hb3 G3 F2
    go_wp2_with fail
    refine (VectorErr_any t _).mono ?_
    rintro e w4 ⟨rfl, hb4⟩
    rw [HET.out]
    clear k0_0 k0_1 kf0 kg0 kz0 k1_0 k1_1 kf1 kg1 kz1
    have G4 := Fr.call F3.out hb4
    obtain ⟨k0_0, k0_1, kf0, kg0⟩ := (G4.get 1 rfl).two
    have kz0 := (G4.get 1 rfl).lt
    obtain ⟨k1_0, k1_1, kf1, kg1⟩ := (G4.get 0 rfl).two
    have kz1 := (G4.get 0 rfl).lt
    have F4 : Hid (Fr w _ [(w.heap.size + 1, 24, #[.int .i64 t.a, .int .i64 t.b]), (w.heap.size, 24, #[.int .i64 f.a, .int .i64 f.b])]) := Lib.hid G4
    clear hb4 G4 F3
    go_wp2_with (go_at_call 23; refine (Within_any _ _ _ _).mono ?_; rintro e w' ⟨rfl, rfl⟩; rw [HIN.out])
    go_ret
    exact ⟨rfl, F4.out.bl⟩

set_option maxHeartbeats 4000000 in
set_option maxRecDepth 100000 in
theorem changes_ok (f t : T3) (m : Nat) (hm : m < 30) (hf : okT f = true) (ht : okT t = true) (w : World) (hT : Tab w) : Calls Tryd.prog 8 #[(.agg #[.int .i64 f.a, .int .i64 f.b]), (.agg #[.int .i64 t.a, .int .i64 t.b]), .int .i64 ((m : Int) + 1)] w fun e w' => e = .returned (.bool true) ∧ Below w.heap.size w w' := by
  have F0 := Lib.hid (Fr.b2 w 24 #[.int .i64 f.a, .int .i64 f.b] 24 #[.int .i64 t.a, .int .i64 t.b])
  have T0 := Lib.hid ((hT.new (.cells #[.int .i64 f.a, .int .i64 f.b] 24)).new (.cells #[.int .i64 t.a, .int .i64 t.b] 24))
  clear hT
  have hcast : ((m + 1 : Nat) : Int) = (m : Int) + 1 := by omega
  have HHO : Hid (∀ w, Calls Tryd.prog 46 #[(.agg #[.int .i64 f.a, .int .i64 f.b]), (.agg #[.int .i64 t.a, .int .i64 t.b]), .int .i64 ((m : Int) + 1)] w fun e w' => ∃ g : Hd, e = .returned (.tuple #[.slice g.A (m + 1) g.c, .int .i64 0]) ∧ Lies w' w'.heap.size g.A ((hdL f t ((m : Int) + 1) (m + 1)).flatMap tc) ∧ Below w.heap.size w w') := Lib.hid (fun w => by have := Handed_ok f t (m + 1) hf ht (by omega) (by omega) w; rw [hcast] at this; exact this)
  have HRH : Hid (∀ w, Calls Tryd.prog 48 #[(.agg #[.int .i64 f.a, .int .i64 f.b]), (.agg #[.int .i64 t.a, .int .i64 t.b]), .int .i64 ((m : Int) + 1)] w fun e w' => ∃ g : Hd, e = .returned (.slice g.A (m + 1) g.c) ∧ Lies w' w'.heap.size g.A ((hdL f t ((m : Int) + 1) (m + 1)).flatMap tc) ∧ Below w.heap.size w w') := Lib.hid (fun w => by have := refHanded_any f t (m + 1) hf ht (by omega) (by omega) w; rw [hcast] at this; exact this)
  have HEF := Lib.hid (vE_ok hf)
  have HET := Lib.hid (vE_ok ht)
  have HIN : Hid (inB ((m : Int) + 1) 1 100 = true) := Lib.hid (inB_iff.2 (by omega))
  have hms : (m : Int) < 30 := by omega
  have hm0 : (0 : Int) ≤ (m : Int) := by omega
  have wm := IntWalk.i64_in ((m : Int) + 1 - 1) (by omega)
  have wm1 : IntKind.i64.wrap (m : Int) = (m : Int) := IntWalk.i64_in _ ⟨by omega, by omega⟩
  have wm2 : wrap64 (m : Int) = (m : Int) := IntWalk.wrap64_in _ ⟨by omega, by omega⟩
  have wm3 : (m : Int) + 1 - 1 = (m : Int) := by omega
  have wm4 : (m : Int) < (m : Int) + 1 := by omega
  have wm5 : IntKind.i64.wrap ((m : Int) + 1 - 1) = (m : Int) := by rw [wm3]; exact wm1
  have wm6 : wrap64 ((m : Int) + 1 - 1) = (m : Int) := by rw [wm3]; exact wm2
  obtain ⟨fa0, fa1, fb0, fb1⟩ := okT_bd hf
  obtain ⟨ta0, ta1, tb0, tb1⟩ := okT_bd ht
  have HLA : Hid (hdP f.a t.a ((m : Int) + 1) (m + 1) = t.a ∧ hdP f.b t.b ((m : Int) + 1) (m + 1) = t.b) := Lib.hid (by have h1 := hdP_last f.a t.a (m + 1) (by omega); have h2 := hdP_last f.b t.b (m + 1) (by omega); rw [hcast] at h1 h2; exact ⟨h1, h2⟩)
  have wva : IntKind.i64.wrap (t.a - f.a) = t.a - f.a := IntWalk.i64_in _ ⟨by omega, by omega⟩
  have wvb : IntKind.i64.wrap (t.b - f.b) = t.b - f.b := IntWalk.i64_in _ ⟨by omega, by omega⟩
  obtain ⟨ca, hca⟩ : ∃ c, -(-(max (t.a - f.a) (-(t.a - f.a))) / ((m : Int) + 1)) = c := ⟨_, rfl⟩
  obtain ⟨cb, hcb⟩ : ∃ c, -(-(max (t.b - f.b) (-(t.b - f.b))) / ((m : Int) + 1)) = c := ⟨_, rfl⟩
  have HST : Hid (∀ k : Nat, (hdP f.a t.a ((m : Int) + 1) (k + 1) - hdP f.a t.a ((m : Int) + 1) k ≤ ca ∧ -(hdP f.a t.a ((m : Int) + 1) (k + 1) - hdP f.a t.a ((m : Int) + 1) k) ≤ ca) ∧ hdP f.b t.b ((m : Int) + 1) (k + 1) - hdP f.b t.b ((m : Int) + 1) k ≤ cb ∧ -(hdP f.b t.b ((m : Int) + 1) (k + 1) - hdP f.b t.b ((m : Int) + 1) k) ≤ cb) := Lib.hid (fun k => by rw [← hca, ← hcb]; exact ⟨hdP_step (by omega) k, hdP_step (by omega) k⟩)
  have HBD : Hid (∀ k : Nat, k ≤ 101 → (-30000000 ≤ hdP f.a t.a ((m : Int) + 1) k ∧ hdP f.a t.a ((m : Int) + 1) k ≤ 30000000) ∧ -30000000 ≤ hdP f.b t.b ((m : Int) + 1) k ∧ hdP f.b t.b ((m : Int) + 1) k ≤ 30000000) := Lib.hid (fun k hk => by have h1 := (hdP_bd (s := (m : Int) + 1) (by omega) ⟨fa0, fa1⟩ ⟨ta0, ta1⟩ k hk).2; have h2 := (hdP_bd (s := (m : Int) + 1) (by omega) ⟨fb0, fb1⟩ ⟨tb0, tb1⟩ k hk).2; unfold hdP; omega)
  have HSA : Hid (∀ w, Calls Tryd.prog 50 #[.int .i64 (t.a - f.a)] w fun e w' => e = .returned (.int .i64 (max (t.a - f.a) (-(t.a - f.a)))) ∧ w = w') := Lib.hid (Size_any _ (by omega) (by omega))
  have HCA : Hid (∀ w, Calls Tryd.prog 49 #[.int .i64 (max (t.a - f.a) (-(t.a - f.a))), .int .i64 ((m : Int) + 1)] w fun e w' => e = .returned (.int .i64 ca) ∧ w = w') := Lib.hid (fun w => by have := Ceil_any (max (t.a - f.a) (-(t.a - f.a))) ((m : Int) + 1) (by omega) (by omega) (by omega) (by omega) w; rw [hca] at this; exact this)
  have HSB : Hid (∀ w, Calls Tryd.prog 50 #[.int .i64 (t.b - f.b)] w fun e w' => e = .returned (.int .i64 (max (t.b - f.b) (-(t.b - f.b)))) ∧ w = w') := Lib.hid (Size_any _ (by omega) (by omega))
  have HCB : Hid (∀ w, Calls Tryd.prog 49 #[.int .i64 (max (t.b - f.b) (-(t.b - f.b))), .int .i64 ((m : Int) + 1)] w fun e w' => e = .returned (.int .i64 cb) ∧ w = w') := Lib.hid (fun w => by have := Ceil_any (max (t.b - f.b) (-(t.b - f.b))) ((m : Int) + 1) (by omega) (by omega) (by omega) (by omega) w; rw [hcb] at this; exact this)
  clear hf ht hca hcb hcast
  go_enter Tryd.func8, Tryd.ntmps8
  go_wp2_with fail
  refine (awake_any _ T0.out).mono ?_
  rintro e w1 ⟨rfl, hb1⟩
  have G1 := Fr.call F0.out hb1
  obtain ⟨k0_0, k0_1, kf0, kg0⟩ := (G1.get 1 rfl).two
  have kz0 := (G1.get 1 rfl).lt
  obtain ⟨k1_0, k1_1, kf1, kg1⟩ := (G1.get 0 rfl).two
  have kz1 := (G1.get 0 rfl).lt
  have F1 : Hid (Fr w _ [(w.heap.size + 1, 24, #[.int .i64 t.a, .int .i64 t.b]), (w.heap.size, 24, #[.int .i64 f.a, .int .i64 f.b])]) := Lib.hid G1
  clear hb1 G1 F0
  go_wp2_with fail
  refine (HHO.out _).mono ?_
  rintro e w2 ⟨g4, rfl, hl4, hb2⟩
  clear k0_0 k0_1 kf0 kg0 kz0 k1_0 k1_1 kf1 kg1 kz1
  have G2 := Fr.call F1.out hb2
  have HL4 := Lib.hid hl4
  clear hl4
  obtain ⟨k0_0, k0_1, kf0, kg0⟩ := (G2.get 1 rfl).two
  have kz0 := (G2.get 1 rfl).lt
  obtain ⟨k1_0, k1_1, kf1, kg1⟩ := (G2.get 0 rfl).two
  have kz1 := (G2.get 0 rfl).lt
  have F2 : Hid (Fr w _ [(w.heap.size + 1, 24, #[.int .i64 t.a, .int .i64 t.b]), (w.heap.size, 24, #[.int .i64 f.a, .int .i64 f.b])]) := Lib.hid G2
  clear hb2 G2 F1
  go_wp2_with fail
  refine (VectorErr_any f _).mono ?_
  rintro e w3 ⟨rfl, hb3⟩
  rw [HEF.out]
  clear k0_0 k0_1 kf0 kg0 kz0 k1_0 k1_1 kf1 kg1 kz1
  have G3 := Fr.call F2.out hb3
  have HL4 := Lib.hid (Lies.call HL4.out hb3)
  obtain ⟨k0_0, k0_1, kf0, kg0⟩ := (G3.get 1 rfl).two
  have kz0 := (G3.get 1 rfl).lt
  obtain ⟨k1_0, k1_1, kf1, kg1⟩ := (G3.get 0 rfl).two
  have kz1 := (G3.get 0 rfl).lt
  have F3 : Hid (Fr w _ [(w.heap.size + 1, 24, #[.int .i64 t.a, .int .i64 t.b]), (w.heap.size, 24, #[.int .i64 f.a, .int .i64 f.b])]) := Lib.hid G3
  clear hb3 G3 F2
  go_wp2_with fail
  refine (VectorErr_any t _).mono ?_
  rintro e w4 ⟨rfl, hb4⟩
  rw [HET.out]
  clear k0_0 k0_1 kf0 kg0 kz0 k1_0 k1_1 kf1 kg1 kz1
  have G4 := Fr.call F3.out hb4
  have HL4 := Lib.hid (Lies.call HL4.out hb4)
  obtain ⟨k0_0, k0_1, kf0, kg0⟩ := (G4.get 1 rfl).two
  have kz0 := (G4.get 1 rfl).lt
  obtain ⟨k1_0, k1_1, kf1, kg1⟩ := (G4.get 0 rfl).two
  have kz1 := (G4.get 0 rfl).lt
  have F4 : Hid (Fr w _ [(w.heap.size + 1, 24, #[.int .i64 t.a, .int .i64 t.b]), (w.heap.size, 24, #[.int .i64 f.a, .int .i64 f.b])]) := Lib.hid G4
  clear hb4 G4 F3
  go_upto_region 8 with (go_at_call 23; refine (Within_any _ _ _ _).mono ?_; rintro e w' ⟨rfl, rfl⟩; rw [HIN.out])
  obtain ⟨A4, c4⟩ := g4
  simp only at HL4
  obtain ⟨a4, rfl, hab4, _, _⟩ := HL4.out.third (hdL_at f t ((m : Int) + 1) (m + 1) 0 (by omega))
  have HCE : Hid (∀ k : Nat, k < m + 1 → ∀ W, Below w4.heap.size w4 W → W.cell? (a4.add (k * 2)) = some (.int .i64 (hdP f.a t.a ((m : Int) + 1) (k + 1))) ∧ W.cell? ⟨(a4.add (k * 2)).block, (a4.add (k * 2)).off + 1, none⟩ = some (.int .i64 (hdP f.b t.b ((m : Int) + 1) (k + 1)))) := Lib.hid (fun k hk W hb => by
    obtain ⟨a', ea, hab, ca, cb⟩ := HL4.out.third (hdL_at f t ((m : Int) + 1) (m + 1) k hk)
    obtain rfl : a4 = a' := Option.some.inj ea
    have haa' : (a4.add (k * 2)).block < w4.heap.size := by rw [add_blk]; exact hab
    exact ⟨(hb.cell haa').trans ca, (hb.cell (p := ⟨(a4.add (k * 2)).block, (a4.add (k * 2)).off + 1, none⟩) haa').trans cb⟩)
  have FB : Hid (Fr w4 w4 [(w.heap.size + 1, 24, #[.int .i64 t.a, .int .i64 t.b]), (w.heap.size, 24, #[.int .i64 f.a, .int .i64 f.b])]) := Lib.hid ⟨Below.refl _ _, F4.out.bk⟩
  have BW := Lib.hid F4.out.bl
  clear k0_0 k0_1 kf0 kg0 kz0 k1_0 k1_1 kf1 kg1 kz1 F4
  go_cut [73] from 48 to 73 (fun r W => r = .bool false ∧ Fr w4 W [(w.heap.size + 1, 24, #[.int .i64 t.a, .int .i64 t.b]), (w.heap.size, 24, #[.int .i64 f.a, .int .i64 f.b])])
  case first =>
    have HALL : Hid (∀ W, Fr w4 W [(w.heap.size + 1, 24, #[.int .i64 t.a, .int .i64 t.b]), (w.heap.size, 24, #[.int .i64 f.a, .int .i64 f.b])] → Fr w4 W [(w.heap.size + 1, 24, #[.int .i64 t.a, .int .i64 t.b]), (w.heap.size, 24, #[.int .i64 f.a, .int .i64 f.b])] ∧ W.cell? ⟨w.heap.size, 0, none⟩ = some (.int .i64 f.a) ∧ W.cell? ⟨w.heap.size, 1, none⟩ = some (.int .i64 f.b) ∧ W.cell? ⟨w.heap.size + 1, 0, none⟩ = some (.int .i64 t.a) ∧ W.cell? ⟨w.heap.size + 1, 1, none⟩ = some (.int .i64 t.b) ∧ W.cell? (a4.add (m * 2)) = some (.int .i64 t.a) ∧ W.cell? ⟨(a4.add (m * 2)).block, (a4.add (m * 2)).off + 1, none⟩ = some (.int .i64 t.b)) := Lib.hid (fun W hW => by
      have h := HCE.out m (by omega) W hW.bl
      rw [HLA.out.1, HLA.out.2] at h
      exact ⟨hW, hW.get 1 rfl |>.cell 0, hW.get 1 rfl |>.cell 1, hW.get 0 rfl |>.cell 0, hW.get 0 rfl |>.cell 1, h⟩)
    have F10 : Fr w4 _ [(w.heap.size + 1, 24, #[.int .i64 t.a, .int .i64 t.b]), (w.heap.size, 24, #[.int .i64 f.a, .int .i64 f.b])] := FB.out
    go_region_held3 (fun W => Fr w4 W [(w.heap.size + 1, 24, #[.int .i64 t.a, .int .i64 t.b]), (w.heap.size, 24, #[.int .i64 f.a, .int .i64 f.b])] ∧ W.cell? ⟨w.heap.size, 0, none⟩ = some (.int .i64 f.a) ∧ W.cell? ⟨w.heap.size, 1, none⟩ = some (.int .i64 f.b) ∧ W.cell? ⟨w.heap.size + 1, 0, none⟩ = some (.int .i64 t.a) ∧ W.cell? ⟨w.heap.size + 1, 1, none⟩ = some (.int .i64 t.b) ∧ W.cell? (a4.add (m * 2)) = some (.int .i64 t.a) ∧ W.cell? ⟨(a4.add (m * 2)).block, (a4.add (m * 2)).off + 1, none⟩ = some (.int .i64 t.b))
      ((go_split_ands; refine HALL.out _ ?_; (first | assumption | (repeat (first | assumption | refine Fr.new ?_ _ | refine Fr.drew ?_ | (refine Fr.set ?_ (by first | exact Nat.le_refl _ | omega | (simp; done) | (simp; omega)) (by first | (simp; done) | (simp; omega)) _))); done)))
      ((first
        | (go_at_call 48; go_split_ands; (with_reducible refine (HRH.out _).mono ?_); rintro e w1 ⟨g5, rfl, hl5, hb1⟩; have HL5 := Lib.hid hl5; have F4 := Fr.call (by assumption) hb1; have HL6 := Lib.hid (Fr.lies HL4.out F4); clear hb1 hl5)
        | (go_at_call 47; go_split_ands; (with_reducible refine (Same_hd f t ((m : Int) + 1) (m + 1) (by omega) _ _ _ _ _ HL6.out HL5.out).mono ?_); rintro e w1 ⟨rfl, hb1⟩; have F5 := Fr.call (by assumption) hb1; clear hb1)
        | fail "arm"))
    all_goals
      go_split_ands
      go_wp2_with fail
      go_meet
      exact ⟨rfl, by assumption⟩
  case rest =>
    obtain ⟨wx, rfl⟩ : ∃ W, W = wc := ⟨_, rfl⟩
    obtain ⟨rfl, hx⟩ := hcut
    have FC := Lib.hid hx
    clear hx FB
    go_upto_region 10 with fail
    go_cut [9, 10] from 74 to 89 (fun r s W => r = .int .i64 ca ∧ s = .int .i64 cb ∧ Fr w4 W [(w.heap.size + 1, 24, #[.int .i64 t.a, .int .i64 t.b]), (w.heap.size, 24, #[.int .i64 f.a, .int .i64 f.b])])
    case first =>
      have HALL : Hid (∀ W, Fr w4 W [(w.heap.size + 1, 24, #[.int .i64 t.a, .int .i64 t.b]), (w.heap.size, 24, #[.int .i64 f.a, .int .i64 f.b])] → Fr w4 W [(w.heap.size + 1, 24, #[.int .i64 t.a, .int .i64 t.b]), (w.heap.size, 24, #[.int .i64 f.a, .int .i64 f.b])] ∧ W.cell? ⟨w.heap.size, 0, none⟩ = some (.int .i64 f.a) ∧ W.cell? ⟨w.heap.size, 1, none⟩ = some (.int .i64 f.b) ∧ W.cell? ⟨w.heap.size + 1, 0, none⟩ = some (.int .i64 t.a) ∧ W.cell? ⟨w.heap.size + 1, 1, none⟩ = some (.int .i64 t.b)) := Lib.hid (fun W hW => ⟨hW, hW.get 1 rfl |>.cell 0, hW.get 1 rfl |>.cell 1, hW.get 0 rfl |>.cell 0, hW.get 0 rfl |>.cell 1⟩)
      have F10 : Fr w4 _ [(w.heap.size + 1, 24, #[.int .i64 t.a, .int .i64 t.b]), (w.heap.size, 24, #[.int .i64 f.a, .int .i64 f.b])] := FC.out
      clear FC
      go_region_held3 (fun W => Fr w4 W [(w.heap.size + 1, 24, #[.int .i64 t.a, .int .i64 t.b]), (w.heap.size, 24, #[.int .i64 f.a, .int .i64 f.b])] ∧ W.cell? ⟨w.heap.size, 0, none⟩ = some (.int .i64 f.a) ∧ W.cell? ⟨w.heap.size, 1, none⟩ = some (.int .i64 f.b) ∧ W.cell? ⟨w.heap.size + 1, 0, none⟩ = some (.int .i64 t.a) ∧ W.cell? ⟨w.heap.size + 1, 1, none⟩ = some (.int .i64 t.b))
        ((go_split_ands; refine HALL.out _ ?_; (first | assumption | (repeat (first | assumption | refine Fr.new ?_ _ | refine Fr.drew ?_ | (refine Fr.set ?_ (by first | exact Nat.le_refl _ | omega | (simp; done) | (simp; omega)) (by first | (simp; done) | (simp; omega)) _))); done)))
        ((first
          | (go_at_call 50; go_split_ands; (with_reducible refine (HSA.out _).mono ?_); rintro e w' ⟨rfl, rfl⟩)
          | (go_at_call 50; go_split_ands; (with_reducible refine (HSB.out _).mono ?_); rintro e w' ⟨rfl, rfl⟩)
          | (go_at_call 49; go_split_ands; (with_reducible refine (HCA.out _).mono ?_); rintro e w' ⟨rfl, rfl⟩)
          | (go_at_call 49; go_split_ands; (with_reducible refine (HCB.out _).mono ?_); rintro e w' ⟨rfl, rfl⟩)
          | fail "arm"))
      all_goals
        go_split_ands
        go_wp2_with fail
        go_meet
        exact ⟨rfl, rfl, by assumption⟩
    case rest =>
      obtain ⟨wy, rfl⟩ : ∃ W, W = wc := ⟨_, rfl⟩
      obtain ⟨rfl, rfl, hx⟩ := hcut
      have FD := Lib.hid hx
      obtain ⟨x0, x1, _, _⟩ := (hx.get 1 rfl).two
      have hzz := (hx.get 1 rfl).lt
      have hzy := hx.bl.size
      have HNE : Hid (∀ b ∈ ([(w.heap.size + 1, 24, #[.int .i64 t.a, .int .i64 t.b]), (w.heap.size, 24, #[.int .i64 f.a, .int .i64 f.b])] : List (Nat × TypeId × Array Value)), b.1 ≠ wy.heap.size) := Lib.hid (fun b hb => Nat.ne_of_lt (hx.bk b hb).lt)
      have FE : Hid (Fr w4 (wy.alloc (.cells #[.int .i64 f.a, .int .i64 f.b] 24)) ((wy.heap.size, 24, #[.int .i64 f.a, .int .i64 f.b]) :: [(w.heap.size + 1, 24, #[.int .i64 t.a, .int .i64 t.b]), (w.heap.size, 24, #[.int .i64 f.a, .int .i64 f.b])])) := Lib.hid (hx.box 24 #[.int .i64 f.a, .int .i64 f.b])
      clear hx FC
      go_wp2_with fail
      clear x0 x1 FD
      go_loopw [12] (fun i wr => ∃ k : Nat, k ≤ m + 1 ∧ i = .int .i64 k ∧ Fr w4 wr ((wy.heap.size, 24, #[.int .i64 (hdP f.a t.a ((m : Int) + 1) k), .int .i64 (hdP f.b t.b ((m : Int) + 1) k)]) :: [(w.heap.size + 1, 24, #[.int .i64 t.a, .int .i64 t.b]), (w.heap.size, 24, #[.int .i64 f.a, .int .i64 f.b])])) (fun i _ => m + 1 - (intOf i).toNat)
      case atStart => exact ⟨0, Nat.zero_le _, rfl, by rw [hdP_zero, hdP_zero]; exact FE.out⟩
      case round =>
        obtain ⟨k, hk, rfl, hfr⟩ := hrel
        have FK := Lib.hid hfr
        clear hfr FE
        obtain ⟨xa, hxa⟩ : ∃ x, hdP f.a t.a ((m : Int) + 1) k = x := ⟨_, rfl⟩
        obtain ⟨xb, hxb⟩ : ∃ x, hdP f.b t.b ((m : Int) + 1) k = x := ⟨_, rfl⟩
        obtain ⟨ya, hya⟩ : ∃ x, hdP f.a t.a ((m : Int) + 1) (k + 1) = x := ⟨_, rfl⟩
        obtain ⟨yb, hyb⟩ : ∃ x, hdP f.b t.b ((m : Int) + 1) (k + 1) = x := ⟨_, rfl⟩
        rw [hxa, hxb] at FK
        by_cases hlt : k < m + 1
        · have hlt' : (k : Int) < (m : Int) + 1 := by omega
          have hkd : decide ((k : Int) < (m : Int) + 1) = true := by simp; omega
          obtain ⟨⟨b0, b1⟩, b2, b3⟩ := HBD.out k (by omega)
          obtain ⟨⟨d0, d1⟩, d2, d3⟩ := HBD.out (k + 1) (by omega)
          obtain ⟨⟨s0, s1⟩, s2, s3⟩ := HST.out k
          rw [hxa] at b0 b1 s0 s1
          rw [hxb] at b2 b3 s2 s3
          rw [hya] at d0 d1 s0 s1
          rw [hyb] at d2 d3 s2 s3
          have HCK : Hid (∀ W, Below w4.heap.size w4 W → W.cell? (a4.add (k * 2)) = some (.int .i64 ya) ∧ W.cell? ⟨(a4.add (k * 2)).block, (a4.add (k * 2)).off + 1, none⟩ = some (.int .i64 yb)) := Lib.hid (fun W hb => by have := HCE.out k hlt W hb; rw [hya, hyb] at this; exact this)
          have HYA := Lib.hid hya
          have HYB := Lib.hid hyb
          have wda : IntKind.i64.wrap (ya - xa) = ya - xa := IntWalk.i64_in _ ⟨by omega, by omega⟩
          have wdb : IntKind.i64.wrap (yb - xb) = yb - xb := IntWalk.i64_in _ ⟨by omega, by omega⟩
          obtain ⟨za, hza⟩ : ∃ z, max (ya - xa) (-(ya - xa)) = z := ⟨_, rfl⟩
          obtain ⟨zb, hzb⟩ : ∃ z, max (yb - xb) (-(yb - xb)) = z := ⟨_, rfl⟩
          have HZA : Hid (∀ w, Calls Tryd.prog 50 #[.int .i64 (ya - xa)] w fun e w' => e = .returned (.int .i64 za) ∧ w = w') := Lib.hid (by rw [← hza]; exact Size_any _ (by omega) (by omega))
          have HZB : Hid (∀ w, Calls Tryd.prog 50 #[.int .i64 (yb - xb)] w fun e w' => e = .returned (.int .i64 zb) ∧ w = w') := Lib.hid (by rw [← hzb]; exact Size_any _ (by omega) (by omega))
          have ga : ¬ ca < za := by omega
          have gb : ¬ cb < zb := by omega
          have gad : decide (ca < za) = false := by simp; omega
          have gbd : decide (cb < zb) = false := by simp; omega
          clear hxa hxb hya hyb hza hzb
          go_upto_region 15 with fail
          go_cut [120] from 97 to 120 (fun r W => r = .bool false ∧ Fr w4 W ((wy.heap.size, 24, #[.int .i64 xa, .int .i64 xb]) :: [(w.heap.size + 1, 24, #[.int .i64 t.a, .int .i64 t.b]), (w.heap.size, 24, #[.int .i64 f.a, .int .i64 f.b])]))
          case first =>
            have HALL : Hid (∀ W, Fr w4 W ((wy.heap.size, 24, #[.int .i64 xa, .int .i64 xb]) :: [(w.heap.size + 1, 24, #[.int .i64 t.a, .int .i64 t.b]), (w.heap.size, 24, #[.int .i64 f.a, .int .i64 f.b])]) → Fr w4 W ((wy.heap.size, 24, #[.int .i64 xa, .int .i64 xb]) :: [(w.heap.size + 1, 24, #[.int .i64 t.a, .int .i64 t.b]), (w.heap.size, 24, #[.int .i64 f.a, .int .i64 f.b])]) ∧ W.cell? ⟨wy.heap.size, 0, none⟩ = some (.int .i64 xa) ∧ W.cell? ⟨wy.heap.size, 1, none⟩ = some (.int .i64 xb) ∧ W.cell? (a4.add (k * 2)) = some (.int .i64 ya) ∧ W.cell? ⟨(a4.add (k * 2)).block, (a4.add (k * 2)).off + 1, none⟩ = some (.int .i64 yb)) := Lib.hid (fun W hW => ⟨hW, hW.top.cell 0, hW.top.cell 1, HCK.out W hW.bl⟩)
            have F10 : Fr w4 _ ((wy.heap.size, 24, #[.int .i64 xa, .int .i64 xb]) :: [(w.heap.size + 1, 24, #[.int .i64 t.a, .int .i64 t.b]), (w.heap.size, 24, #[.int .i64 f.a, .int .i64 f.b])]) := FK.out
            go_region_held3 (fun W => Fr w4 W ((wy.heap.size, 24, #[.int .i64 xa, .int .i64 xb]) :: [(w.heap.size + 1, 24, #[.int .i64 t.a, .int .i64 t.b]), (w.heap.size, 24, #[.int .i64 f.a, .int .i64 f.b])]) ∧ W.cell? ⟨wy.heap.size, 0, none⟩ = some (.int .i64 xa) ∧ W.cell? ⟨wy.heap.size, 1, none⟩ = some (.int .i64 xb) ∧ W.cell? (a4.add (k * 2)) = some (.int .i64 ya) ∧ W.cell? ⟨(a4.add (k * 2)).block, (a4.add (k * 2)).off + 1, none⟩ = some (.int .i64 yb))
              ((go_split_ands; refine HALL.out _ ?_; (first | assumption | (repeat (first | assumption | refine Fr.new ?_ _ | refine Fr.drew ?_ | (refine Fr.set ?_ (by first | exact Nat.le_refl _ | omega | (simp; done) | (simp; omega)) (by first | (simp; done) | (simp; omega)) _))); done)))
              ((first
                | (go_at_call 50; go_split_ands; (with_reducible refine (HZA.out _).mono ?_); rintro e w' ⟨rfl, rfl⟩)
                | (go_at_call 50; go_split_ands; (with_reducible refine (HZB.out _).mono ?_); rintro e w' ⟨rfl, rfl⟩)
                | fail "arm"))
            all_goals
              go_split_ands
              go_wp2_with fail
              go_meet
              exact ⟨rfl, by assumption⟩
          case rest =>
            obtain ⟨wz, rfl⟩ : ∃ W, W = wc := ⟨_, rfl⟩
            obtain ⟨rfl, hx⟩ := hcut
            have FZ := Lib.hid hx
            obtain ⟨c0, c1⟩ := HCK.out _ hx.bl
            have hf0 := hx.top.frozen 0
            have hf1 := hx.top.frozen 1
            obtain ⟨e0, e1, _, _⟩ := hx.top.two
            have hzk := hx.top.lt
            clear hx FK
            go_wp2_with fail
            go_roundw
            case rel =>
              refine ⟨k + 1, by omega, by go_num, ?_⟩
              rw [HYA.out, HYB.out]
              exact ⟨(FZ.out.bl.setCell hzy _).setCell hzy _, fun b hb => by
                rcases List.mem_cons.1 hb with rfl | hb
                · exact FZ.out.top.set2 _ _
                · have h1 := FZ.out.bk b (List.mem_cons_of_mem _ hb)
                  have hne : b.1 ≠ wy.heap.size := HNE.out b hb
                  exact (h1.far hne _).far hne _⟩
            case measure => simp [intOf]; omega
        · obtain rfl : k = m + 1 := by omega
          go_wp2_with fail
          go_ret
          exact ⟨rfl, Below.step BW.out FK.out.bl⟩

set_option maxHeartbeats 4000000 in
set_option maxRecDepth 100000 in
theorem StatorChanges_any (f t : T3) (s : Int) (w : World) (hT : Tab w) : Calls Tryd.prog 8 #[(.agg #[.int .i64 f.a, .int .i64 f.b]), (.agg #[.int .i64 t.a, .int .i64 t.b]), .int .i64 s] w fun e w' => e = .returned (.bool true) ∧ Below w.heap.size w w' := by
  by_cases hs : s ≤ 30 ∨ 100 < s
  · cases hf : okT f with
    | false => exact changes_from f t s hs hf w hT
    | true =>
      cases ht : okT t with
      | false => exact changes_to f t s hs hf ht w hT
      | true =>
        cases hi : inB s 1 100 with
        | false => exact changes_steps f t s hs hf ht hi w hT
        | true =>
          obtain ⟨i0, i1⟩ := inB_iff.1 hi
          obtain ⟨m, hm⟩ : ∃ m : Nat, s = (m : Int) + 1 := ⟨(s - 1).toNat, by omega⟩
          subst hm
          exact changes_ok f t m (by omega) hf ht w hT
  · exact changes_many f t s (by omega) (by omega) w hT
end Go.Proofs.YtemjefhfplaibaaDoor
