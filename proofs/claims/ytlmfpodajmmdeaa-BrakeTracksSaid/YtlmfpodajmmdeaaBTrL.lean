
/-
  The walk of BrakeTracks.
-/
import Derived.Test.YtlmfpodajmmdeaaBKit
namespace Go.Proofs.Ytlmfpodajmmdeaa
open Go.RowKit

set_option maxHeartbeats 4000000 in
set_option maxRecDepth 100000 in
theorem tracks_long (s : ByteArray) (hs : s.size ≤ maxLen) (ps : List Bp) (A : Option Addr) (c : Nat) (hg : HdOk ⟨A, c⟩) (hl : ps.length ≤ maxLen) (b : Bs) (hsh : shortB s ps = false) (w : World) (hA : Lies w w.heap.size A (ps.flatMap pc)) : Calls Try.prog 3 #[.agg #[.string s, .slice A ps.length c], .agg #[.int .i64 b.brk, .int .i64 b.drag, .int .i64 b.drv]] w fun e w' => e = .returned (.bool true) ∧ Below w.heap.size w w' := by
  have F0 := Lib.hid (Fr.b2 w 24 #[.string s, .slice A ps.length c] 26 #[.int .i64 b.brk, .int .i64 b.drag, .int .i64 b.drv])
  have HA := Lib.hid hA
  have HG := Lib.hid hg
  clear hA hg
  have HSH := Lib.hid hsh
  clear hsh
  go_enter Try.func3, Try.ntmps3
  go_wp2_with fail
  refine (awake_any _).mono ?_
  rintro e w1 ⟨rfl, hb1⟩
  have G1 := Fr.call F0.out hb1
  obtain ⟨k0_0, k0_1, kf0, kg0⟩ := (G1.get 1 rfl).two
  have kz0 := (G1.get 1 rfl).lt
  obtain ⟨k1_0, k1_1, k1_2⟩ := (G1.get 0 rfl).three
  have kz1 := (G1.get 0 rfl).lt
  have F1 : Hid (Fr w _ [(w.heap.size + 1, 26, #[.int .i64 b.brk, .int .i64 b.drag, .int .i64 b.drv]), (w.heap.size, 24, #[.string s, .slice A ps.length c])]) := Lib.hid G1
  clear hb1 G1 F0
  go_wp2_with fail
  refine (Short_any s hs ps A c hl _).mono ?_
  rintro e w2 ⟨rfl, hb2⟩
  rw [HSH.out]
  clear k0_0 k0_1 kf0 kg0 kz0 k1_0 k1_1 k1_2 kz1
  have G2 := Fr.call F1.out hb2
  obtain ⟨k0_0, k0_1, kf0, kg0⟩ := (G2.get 1 rfl).two
  have kz0 := (G2.get 1 rfl).lt
  obtain ⟨k1_0, k1_1, k1_2⟩ := (G2.get 0 rfl).three
  have kz1 := (G2.get 0 rfl).lt
  have F2 : Hid (Fr w _ [(w.heap.size + 1, 26, #[.int .i64 b.brk, .int .i64 b.drag, .int .i64 b.drv]), (w.heap.size, 24, #[.string s, .slice A ps.length c])]) := Lib.hid G2
  clear hb2 G2 F1
  go_wp2_with fail
  go_ret
  exact ⟨rfl, F2.out.bl⟩

set_option maxHeartbeats 4000000 in
set_option maxRecDepth 100000 in
theorem tracks_bad (s : ByteArray) (hs : s.size ≤ maxLen) (ps : List Bp) (A : Option Addr) (c : Nat) (hg : HdOk ⟨A, c⟩) (hl : ps.length ≤ maxLen) (b : Bs) (hsh : shortB s ps = true) (er n : Int) (ht : trE s ps = (n, er)) (hr : er ≠ 0) (w : World) (hA : Lies w w.heap.size A (ps.flatMap pc)) : Calls Try.prog 3 #[.agg #[.string s, .slice A ps.length c], .agg #[.int .i64 b.brk, .int .i64 b.drag, .int .i64 b.drv]] w fun e w' => e = .returned (.bool true) ∧ Below w.heap.size w w' := by
  have F0 := Lib.hid (Fr.b2 w 24 #[.string s, .slice A ps.length c] 26 #[.int .i64 b.brk, .int .i64 b.drag, .int .i64 b.drv])
  have HA := Lib.hid hA
  have HG := Lib.hid hg
  clear hA hg
  have HSH := Lib.hid hsh
  have hl14 : ps.length ≤ 14 := (short_iff.1 hsh).2
  clear hsh
  obtain ⟨se, hse⟩ : ∃ se, sE b = se := ⟨_, rfl⟩
  have HSE := Lib.hid hse
  clear hse
  have HT := Lib.hid ht
  have HT2 : Hid ((trE s ps).2 = er) := Lib.hid (by rw [ht])
  have HR := Lib.hid hr
  have ge : (er == 0) = false := by simp [hr]
  have gn : (er != 0) = true := by simp [hr]
  clear ht hr
  go_enter Try.func3, Try.ntmps3
  go_wp2_with fail
  refine (awake_any _).mono ?_
  rintro e w1 ⟨rfl, hb1⟩
  have G1 := Fr.call F0.out hb1
  obtain ⟨k0_0, k0_1, kf0, kg0⟩ := (G1.get 1 rfl).two
  have kz0 := (G1.get 1 rfl).lt
  obtain ⟨k1_0, k1_1, k1_2⟩ := (G1.get 0 rfl).three
  have kz1 := (G1.get 0 rfl).lt
  have F1 : Hid (Fr w _ [(w.heap.size + 1, 26, #[.int .i64 b.brk, .int .i64 b.drag, .int .i64 b.drv]), (w.heap.size, 24, #[.string s, .slice A ps.length c])]) := Lib.hid G1
  clear hb1 G1 F0
  go_wp2_with fail
  refine (Short_any s hs ps A c hl _).mono ?_
  rintro e w2 ⟨rfl, hb2⟩
  rw [HSH.out]
  clear k0_0 k0_1 kf0 kg0 kz0 k1_0 k1_1 k1_2 kz1
  have G2 := Fr.call F1.out hb2
  obtain ⟨k0_0, k0_1, kf0, kg0⟩ := (G2.get 1 rfl).two
  have kz0 := (G2.get 1 rfl).lt
  obtain ⟨k1_0, k1_1, k1_2⟩ := (G2.get 0 rfl).three
  have kz1 := (G2.get 0 rfl).lt
  have F2 : Hid (Fr w _ [(w.heap.size + 1, 26, #[.int .i64 b.brk, .int .i64 b.drag, .int .i64 b.drv]), (w.heap.size, 24, #[.string s, .slice A ps.length c])]) := Lib.hid G2
  clear hb2 G2 F1
  go_wp2_with fail
  refine (Copy_any s ps ⟨A, c⟩ (by omega) HG.out _ (Fr.lies HA.out F2.out)).mono ?_
  rintro e w3 ⟨g3, rfl, hl3, hk3, hb3⟩
  clear k0_0 k0_1 kf0 kg0 kz0 k1_0 k1_1 k1_2 kz1
  have G3 := Fr.call F2.out hb3
  have HL := Lib.hid hl3
  obtain ⟨k0_0, k0_1, kf0, kg0⟩ := (G3.get 1 rfl).two
  have kz0 := (G3.get 1 rfl).lt
  obtain ⟨k1_0, k1_1, k1_2⟩ := (G3.get 0 rfl).three
  have kz1 := (G3.get 0 rfl).lt
  have F3 : Hid (Fr w _ [(w.heap.size + 1, 26, #[.int .i64 b.brk, .int .i64 b.drag, .int .i64 b.drv]), (w.heap.size, 24, #[.string s, .slice A ps.length c])]) := Lib.hid G3
  clear hb3 G3 F2
  clear hl3 hk3
  go_wp2_with fail
  refine (CheckTrack_any s hs ps g3.A g3.c hl _ HL.out).mono ?_
  rintro e w4 ⟨rfl, hb4⟩
  rw [HT.out]
  clear k0_0 k0_1 kf0 kg0 kz0 k1_0 k1_1 k1_2 kz1
  have G4 := Fr.call F3.out hb4
  obtain ⟨k0_0, k0_1, kf0, kg0⟩ := (G4.get 1 rfl).two
  have kz0 := (G4.get 1 rfl).lt
  obtain ⟨k1_0, k1_1, k1_2⟩ := (G4.get 0 rfl).three
  have kz1 := (G4.get 0 rfl).lt
  have F4 : Hid (Fr w _ [(w.heap.size + 1, 26, #[.int .i64 b.brk, .int .i64 b.drag, .int .i64 b.drv]), (w.heap.size, 24, #[.string s, .slice A ps.length c])]) := Lib.hid G4
  clear hb4 G4 F3
  clear HL
  go_wp2_with fail
  refine (CheckSystem_any b _).mono ?_
  rintro e w5 ⟨rfl, hb5⟩
  rw [HSE.out]
  clear k0_0 k0_1 kf0 kg0 kz0 k1_0 k1_1 k1_2 kz1
  have G5 := Fr.call F4.out hb5
  obtain ⟨k0_0, k0_1, kf0, kg0⟩ := (G5.get 1 rfl).two
  have kz0 := (G5.get 1 rfl).lt
  obtain ⟨k1_0, k1_1, k1_2⟩ := (G5.get 0 rfl).three
  have kz1 := (G5.get 0 rfl).lt
  have F5 : Hid (Fr w _ [(w.heap.size + 1, 26, #[.int .i64 b.brk, .int .i64 b.drag, .int .i64 b.drv]), (w.heap.size, 24, #[.string s, .slice A ps.length c])]) := Lib.hid G5
  clear hb5 G5 F4
  go_wp2_with fail
  refine (Copy_any s ps ⟨A, c⟩ (by omega) HG.out _ (Fr.lies HA.out F5.out)).mono ?_
  rintro e w6 ⟨g6, rfl, hl6, hk6, hb6⟩
  clear k0_0 k0_1 kf0 kg0 kz0 k1_0 k1_1 k1_2 kz1
  have G6 := Fr.call F5.out hb6
  have HL := Lib.hid hl6
  obtain ⟨k0_0, k0_1, kf0, kg0⟩ := (G6.get 1 rfl).two
  have kz0 := (G6.get 1 rfl).lt
  obtain ⟨k1_0, k1_1, k1_2⟩ := (G6.get 0 rfl).three
  have kz1 := (G6.get 0 rfl).lt
  have F6 : Hid (Fr w _ [(w.heap.size + 1, 26, #[.int .i64 b.brk, .int .i64 b.drag, .int .i64 b.drv]), (w.heap.size, 24, #[.string s, .slice A ps.length c])]) := Lib.hid G6
  clear hb6 G6 F5
  clear hl6 hk6
  go_wp2_with fail
  refine ((Places_any s hs ps g6.A g6.c hl er HT2.out _ HL.out).mono fun _ _ h => rowE_bad HR.out h).mono ?_
  rintro e w7 ⟨rPlaces, rfl, hb7⟩
  clear k0_0 k0_1 kf0 kg0 kz0 k1_0 k1_1 k1_2 kz1
  have G7 := Fr.call F6.out hb7
  obtain ⟨k0_0, k0_1, kf0, kg0⟩ := (G7.get 1 rfl).two
  have kz0 := (G7.get 1 rfl).lt
  obtain ⟨k1_0, k1_1, k1_2⟩ := (G7.get 0 rfl).three
  have kz1 := (G7.get 0 rfl).lt
  have F7 : Hid (Fr w _ [(w.heap.size + 1, 26, #[.int .i64 b.brk, .int .i64 b.drag, .int .i64 b.drv]), (w.heap.size, 24, #[.string s, .slice A ps.length c])]) := Lib.hid G7
  clear hb7 G7 F6
  clear HL
  go_wp2_with fail
  refine (Copy_any s ps ⟨A, c⟩ (by omega) HG.out _ (Fr.lies HA.out F7.out)).mono ?_
  rintro e w8 ⟨g8, rfl, hl8, hk8, hb8⟩
  clear k0_0 k0_1 kf0 kg0 kz0 k1_0 k1_1 k1_2 kz1
  have G8 := Fr.call F7.out hb8
  have HL := Lib.hid hl8
  obtain ⟨k0_0, k0_1, kf0, kg0⟩ := (G8.get 1 rfl).two
  have kz0 := (G8.get 1 rfl).lt
  obtain ⟨k1_0, k1_1, k1_2⟩ := (G8.get 0 rfl).three
  have kz1 := (G8.get 0 rfl).lt
  have F8 : Hid (Fr w _ [(w.heap.size + 1, 26, #[.int .i64 b.brk, .int .i64 b.drag, .int .i64 b.drv]), (w.heap.size, 24, #[.string s, .slice A ps.length c])]) := Lib.hid G8
  clear hb8 G8 F7
  clear hl8 hk8
  go_wp2_with fail
  refine ((LimitsAt_any s hs ps g8.A g8.c hl er HT2.out _ HL.out).mono fun _ _ h => rowE_bad HR.out h).mono ?_
  rintro e w9 ⟨rLimitsAt, rfl, hb9⟩
  clear k0_0 k0_1 kf0 kg0 kz0 k1_0 k1_1 k1_2 kz1
  have G9 := Fr.call F8.out hb9
  obtain ⟨k0_0, k0_1, kf0, kg0⟩ := (G9.get 1 rfl).two
  have kz0 := (G9.get 1 rfl).lt
  obtain ⟨k1_0, k1_1, k1_2⟩ := (G9.get 0 rfl).three
  have kz1 := (G9.get 0 rfl).lt
  have F9 : Hid (Fr w _ [(w.heap.size + 1, 26, #[.int .i64 b.brk, .int .i64 b.drag, .int .i64 b.drv]), (w.heap.size, 24, #[.string s, .slice A ps.length c])]) := Lib.hid G9
  clear hb9 G9 F8
  clear HL
  go_wp2_with fail
  refine (refCheckTrack_any s hs ps A c hl _ (Fr.lies HA.out F9.out)).mono ?_
  rintro e w10 ⟨rfl, hb10⟩
  rw [HT.out]
  clear k0_0 k0_1 kf0 kg0 kz0 k1_0 k1_1 k1_2 kz1
  have G10 := Fr.call F9.out hb10
  obtain ⟨k0_0, k0_1, kf0, kg0⟩ := (G10.get 1 rfl).two
  have kz0 := (G10.get 1 rfl).lt
  obtain ⟨k1_0, k1_1, k1_2⟩ := (G10.get 0 rfl).three
  have kz1 := (G10.get 0 rfl).lt
  have F10 : Hid (Fr w _ [(w.heap.size + 1, 26, #[.int .i64 b.brk, .int .i64 b.drag, .int .i64 b.drv]), (w.heap.size, 24, #[.string s, .slice A ps.length c])]) := Lib.hid G10
  clear hb10 G10 F9
  go_wp2_with fail
  refine (refCheckSystem_any b _).mono ?_
  rintro e w11 ⟨rfl, hb11⟩
  rw [HSE.out]
  clear k0_0 k0_1 kf0 kg0 kz0 k1_0 k1_1 k1_2 kz1
  have G11 := Fr.call F10.out hb11
  obtain ⟨k0_0, k0_1, kf0, kg0⟩ := (G11.get 1 rfl).two
  have kz0 := (G11.get 1 rfl).lt
  obtain ⟨k1_0, k1_1, k1_2⟩ := (G11.get 0 rfl).three
  have kz1 := (G11.get 0 rfl).lt
  have F11 : Hid (Fr w _ [(w.heap.size + 1, 26, #[.int .i64 b.brk, .int .i64 b.drag, .int .i64 b.drv]), (w.heap.size, 24, #[.string s, .slice A ps.length c])]) := Lib.hid G11
  clear hb11 G11 F10
  go_wp2_with fail
  go_ret
  exact ⟨rfl, F11.out.bl⟩

set_option maxHeartbeats 4000000 in
set_option maxRecDepth 100000 in
theorem tracks_ok (s : ByteArray) (hs : s.size ≤ maxLen) (ps : List Bp) (A : Option Addr) (c : Nat) (hg : HdOk ⟨A, c⟩) (hl : ps.length ≤ maxLen) (b : Bs) (hsh : shortB s ps = true) (hok : OkT s ps) (w : World) (hA : Lies w w.heap.size A (ps.flatMap pc)) : Calls Try.prog 3 #[.agg #[.string s, .slice A ps.length c], .agg #[.int .i64 b.brk, .int .i64 b.drag, .int .i64 b.drv]] w fun e w' => e = .returned (.bool true) ∧ Below w.heap.size w w' := by
  have HOK := Lib.hid hok
  obtain ⟨a, rfl⟩ := ps_some hA hok.n0
  have F0 := Lib.hid (Fr.b2 w 24 #[.string s, .slice (some a) ps.length c] 26 #[.int .i64 b.brk, .int .i64 b.drag, .int .i64 b.drv])
  have HA := Lib.hid hA
  have HG := Lib.hid hg
  clear hA hg
  have HSH := Lib.hid hsh
  have hl14 : ps.length ≤ 14 := (short_iff.1 hsh).2
  clear hsh
  obtain ⟨se, hse⟩ : ∃ se, sE b = se := ⟨_, rfl⟩
  have HSE := Lib.hid hse
  clear hse
  have HT := Lib.hid (trE_ok hok)
  have HT2 : Hid ((trE s ps).2 = 0) := Lib.hid (by rw [trE_ok hok])
  have hl12 := hok.n12
  clear hok
  go_enter Try.func3, Try.ntmps3
  go_wp2_with fail
  refine (awake_any _).mono ?_
  rintro e w1 ⟨rfl, hb1⟩
  have G1 := Fr.call F0.out hb1
  obtain ⟨k0_0, k0_1, kf0, kg0⟩ := (G1.get 1 rfl).two
  have kz0 := (G1.get 1 rfl).lt
  obtain ⟨k1_0, k1_1, k1_2⟩ := (G1.get 0 rfl).three
  have kz1 := (G1.get 0 rfl).lt
  have F1 : Hid (Fr w _ [(w.heap.size + 1, 26, #[.int .i64 b.brk, .int .i64 b.drag, .int .i64 b.drv]), (w.heap.size, 24, #[.string s, .slice (some a) ps.length c])]) := Lib.hid G1
  clear hb1 G1 F0
  go_wp2_with fail
  refine (Short_any s hs ps (some a) c hl _).mono ?_
  rintro e w2 ⟨rfl, hb2⟩
  rw [HSH.out]
  clear k0_0 k0_1 kf0 kg0 kz0 k1_0 k1_1 k1_2 kz1
  have G2 := Fr.call F1.out hb2
  obtain ⟨k0_0, k0_1, kf0, kg0⟩ := (G2.get 1 rfl).two
  have kz0 := (G2.get 1 rfl).lt
  obtain ⟨k1_0, k1_1, k1_2⟩ := (G2.get 0 rfl).three
  have kz1 := (G2.get 0 rfl).lt
  have F2 : Hid (Fr w _ [(w.heap.size + 1, 26, #[.int .i64 b.brk, .int .i64 b.drag, .int .i64 b.drv]), (w.heap.size, 24, #[.string s, .slice (some a) ps.length c])]) := Lib.hid G2
  clear hb2 G2 F1
  go_wp2_with fail
  refine (Copy_any s ps ⟨(some a), c⟩ (by omega) HG.out _ (Fr.lies HA.out F2.out)).mono ?_
  rintro e w3 ⟨g3, rfl, hl3, hk3, hb3⟩
  clear k0_0 k0_1 kf0 kg0 kz0 k1_0 k1_1 k1_2 kz1
  have G3 := Fr.call F2.out hb3
  have HL := Lib.hid hl3
  obtain ⟨k0_0, k0_1, kf0, kg0⟩ := (G3.get 1 rfl).two
  have kz0 := (G3.get 1 rfl).lt
  obtain ⟨k1_0, k1_1, k1_2⟩ := (G3.get 0 rfl).three
  have kz1 := (G3.get 0 rfl).lt
  have F3 : Hid (Fr w _ [(w.heap.size + 1, 26, #[.int .i64 b.brk, .int .i64 b.drag, .int .i64 b.drv]), (w.heap.size, 24, #[.string s, .slice (some a) ps.length c])]) := Lib.hid G3
  clear hb3 G3 F2
  clear hl3 hk3
  go_wp2_with fail
  refine (CheckTrack_any s hs ps g3.A g3.c hl _ HL.out).mono ?_
  rintro e w4 ⟨rfl, hb4⟩
  rw [HT.out]
  clear k0_0 k0_1 kf0 kg0 kz0 k1_0 k1_1 k1_2 kz1
  have G4 := Fr.call F3.out hb4
  obtain ⟨k0_0, k0_1, kf0, kg0⟩ := (G4.get 1 rfl).two
  have kz0 := (G4.get 1 rfl).lt
  obtain ⟨k1_0, k1_1, k1_2⟩ := (G4.get 0 rfl).three
  have kz1 := (G4.get 0 rfl).lt
  have F4 : Hid (Fr w _ [(w.heap.size + 1, 26, #[.int .i64 b.brk, .int .i64 b.drag, .int .i64 b.drv]), (w.heap.size, 24, #[.string s, .slice (some a) ps.length c])]) := Lib.hid G4
  clear hb4 G4 F3
  clear HL
  go_wp2_with fail
  refine (CheckSystem_any b _).mono ?_
  rintro e w5 ⟨rfl, hb5⟩
  rw [HSE.out]
  clear k0_0 k0_1 kf0 kg0 kz0 k1_0 k1_1 k1_2 kz1
  have G5 := Fr.call F4.out hb5
  obtain ⟨k0_0, k0_1, kf0, kg0⟩ := (G5.get 1 rfl).two
  have kz0 := (G5.get 1 rfl).lt
  obtain ⟨k1_0, k1_1, k1_2⟩ := (G5.get 0 rfl).three
  have kz1 := (G5.get 0 rfl).lt
  have F5 : Hid (Fr w _ [(w.heap.size + 1, 26, #[.int .i64 b.brk, .int .i64 b.drag, .int .i64 b.drv]), (w.heap.size, 24, #[.string s, .slice (some a) ps.length c])]) := Lib.hid G5
  clear hb5 G5 F4
  go_wp2_with fail
  refine (Copy_any s ps ⟨(some a), c⟩ (by omega) HG.out _ (Fr.lies HA.out F5.out)).mono ?_
  rintro e w6 ⟨g6, rfl, hl6, hk6, hb6⟩
  clear k0_0 k0_1 kf0 kg0 kz0 k1_0 k1_1 k1_2 kz1
  have G6 := Fr.call F5.out hb6
  have HL := Lib.hid hl6
  obtain ⟨k0_0, k0_1, kf0, kg0⟩ := (G6.get 1 rfl).two
  have kz0 := (G6.get 1 rfl).lt
  obtain ⟨k1_0, k1_1, k1_2⟩ := (G6.get 0 rfl).three
  have kz1 := (G6.get 0 rfl).lt
  have F6 : Hid (Fr w _ [(w.heap.size + 1, 26, #[.int .i64 b.brk, .int .i64 b.drag, .int .i64 b.drv]), (w.heap.size, 24, #[.string s, .slice (some a) ps.length c])]) := Lib.hid G6
  clear hb6 G6 F5
  clear hl6 hk6
  go_wp2_with fail
  refine ((Places_any s hs ps g6.A g6.c hl 0 HT2.out _ HL.out).mono fun _ _ h => rowE_ok h).mono ?_
  rintro e w7 ⟨rPlaces, rfl, hyPlaces, hb7⟩
  clear k0_0 k0_1 kf0 kg0 kz0 k1_0 k1_1 k1_2 kz1
  have G7 := Fr.call F6.out hb7
  have YPlaces := Lib.hid hyPlaces
  obtain ⟨k0_0, k0_1, kf0, kg0⟩ := (G7.get 1 rfl).two
  have kz0 := (G7.get 1 rfl).lt
  obtain ⟨k1_0, k1_1, k1_2⟩ := (G7.get 0 rfl).three
  have kz1 := (G7.get 0 rfl).lt
  have F7 : Hid (Fr w _ [(w.heap.size + 1, 26, #[.int .i64 b.brk, .int .i64 b.drag, .int .i64 b.drv]), (w.heap.size, 24, #[.string s, .slice (some a) ps.length c])]) := Lib.hid G7
  clear hb7 G7 F6
  clear hyPlaces HL
  go_wp2_with fail
  refine (Copy_any s ps ⟨(some a), c⟩ (by omega) HG.out _ (Fr.lies HA.out F7.out)).mono ?_
  rintro e w8 ⟨g8, rfl, hl8, hk8, hb8⟩
  clear k0_0 k0_1 kf0 kg0 kz0 k1_0 k1_1 k1_2 kz1
  have G8 := Fr.call F7.out hb8
  have HL := Lib.hid hl8
  have YPlaces := Lib.hid (Lies.call YPlaces.out hb8)
  obtain ⟨k0_0, k0_1, kf0, kg0⟩ := (G8.get 1 rfl).two
  have kz0 := (G8.get 1 rfl).lt
  obtain ⟨k1_0, k1_1, k1_2⟩ := (G8.get 0 rfl).three
  have kz1 := (G8.get 0 rfl).lt
  have F8 : Hid (Fr w _ [(w.heap.size + 1, 26, #[.int .i64 b.brk, .int .i64 b.drag, .int .i64 b.drv]), (w.heap.size, 24, #[.string s, .slice (some a) ps.length c])]) := Lib.hid G8
  clear hb8 G8 F7
  clear hl8 hk8
  go_wp2_with fail
  refine ((LimitsAt_any s hs ps g8.A g8.c hl 0 HT2.out _ HL.out).mono fun _ _ h => rowE_ok h).mono ?_
  rintro e w9 ⟨rLimitsAt, rfl, hyLimitsAt, hb9⟩
  clear k0_0 k0_1 kf0 kg0 kz0 k1_0 k1_1 k1_2 kz1
  have G9 := Fr.call F8.out hb9
  have YLimitsAt := Lib.hid hyLimitsAt
  have YPlaces := Lib.hid (Lies.call YPlaces.out hb9)
  obtain ⟨k0_0, k0_1, kf0, kg0⟩ := (G9.get 1 rfl).two
  have kz0 := (G9.get 1 rfl).lt
  obtain ⟨k1_0, k1_1, k1_2⟩ := (G9.get 0 rfl).three
  have kz1 := (G9.get 0 rfl).lt
  have F9 : Hid (Fr w _ [(w.heap.size + 1, 26, #[.int .i64 b.brk, .int .i64 b.drag, .int .i64 b.drv]), (w.heap.size, 24, #[.string s, .slice (some a) ps.length c])]) := Lib.hid G9
  clear hb9 G9 F8
  clear hyLimitsAt HL
  go_wp2_with fail
  refine (refCheckTrack_any s hs ps (some a) c hl _ (Fr.lies HA.out F9.out)).mono ?_
  rintro e w10 ⟨rfl, hb10⟩
  rw [HT.out]
  clear k0_0 k0_1 kf0 kg0 kz0 k1_0 k1_1 k1_2 kz1
  have G10 := Fr.call F9.out hb10
  have YPlaces := Lib.hid (Lies.call YPlaces.out hb10)
  have YLimitsAt := Lib.hid (Lies.call YLimitsAt.out hb10)
  obtain ⟨k0_0, k0_1, kf0, kg0⟩ := (G10.get 1 rfl).two
  have kz0 := (G10.get 1 rfl).lt
  obtain ⟨k1_0, k1_1, k1_2⟩ := (G10.get 0 rfl).three
  have kz1 := (G10.get 0 rfl).lt
  have F10 : Hid (Fr w _ [(w.heap.size + 1, 26, #[.int .i64 b.brk, .int .i64 b.drag, .int .i64 b.drv]), (w.heap.size, 24, #[.string s, .slice (some a) ps.length c])]) := Lib.hid G10
  clear hb10 G10 F9
  go_wp2_with fail
  refine (refCheckSystem_any b _).mono ?_
  rintro e w11 ⟨rfl, hb11⟩
  rw [HSE.out]
  clear k0_0 k0_1 kf0 kg0 kz0 k1_0 k1_1 k1_2 kz1
  have G11 := Fr.call F10.out hb11
  have YPlaces := Lib.hid (Lies.call YPlaces.out hb11)
  have YLimitsAt := Lib.hid (Lies.call YLimitsAt.out hb11)
  obtain ⟨k0_0, k0_1, kf0, kg0⟩ := (G11.get 1 rfl).two
  have kz0 := (G11.get 1 rfl).lt
  obtain ⟨k1_0, k1_1, k1_2⟩ := (G11.get 0 rfl).three
  have kz1 := (G11.get 0 rfl).lt
  have F11 : Hid (Fr w _ [(w.heap.size + 1, 26, #[.int .i64 b.brk, .int .i64 b.drag, .int .i64 b.drv]), (w.heap.size, 24, #[.string s, .slice (some a) ps.length c])]) := Lib.hid G11
  clear hb11 G11 F10
  go_wp2_with fail
  refine (refPlaces_any s ps a c HOK.out.n0 HOK.out.n12 HOK.out.each _ (Fr.lies HA.out F11.out)).mono ?_
  rintro e w12 ⟨qPlaces, rfl, hzPlaces, _, hb12⟩
  rw [listF_len]
  clear k0_0 k0_1 kf0 kg0 kz0 k1_0 k1_1 k1_2 kz1
  have G12 := Fr.call F11.out hb12
  have ZPlaces := Lib.hid hzPlaces
  have YPlaces := Lib.hid (Lies.call YPlaces.out hb12)
  have YLimitsAt := Lib.hid (Lies.call YLimitsAt.out hb12)
  obtain ⟨k0_0, k0_1, kf0, kg0⟩ := (G12.get 1 rfl).two
  have kz0 := (G12.get 1 rfl).lt
  obtain ⟨k1_0, k1_1, k1_2⟩ := (G12.get 0 rfl).three
  have kz1 := (G12.get 0 rfl).lt
  have F12 : Hid (Fr w _ [(w.heap.size + 1, 26, #[.int .i64 b.brk, .int .i64 b.drag, .int .i64 b.drv]), (w.heap.size, 24, #[.string s, .slice (some a) ps.length c])]) := Lib.hid G12
  clear hb12 G12 F11
  clear hzPlaces
  go_wp2_with fail
  refine (Ints_listF (ps.length + 1) (plcV ps) (by omega) _ _ _ _ _ YPlaces.out ZPlaces.out).mono ?_
  rintro e w13 ⟨rfl, hb13⟩
  clear k0_0 k0_1 kf0 kg0 kz0 k1_0 k1_1 k1_2 kz1
  have G13 := Fr.call F12.out hb13
  have YPlaces := Lib.hid (Lies.call YPlaces.out hb13)
  have YLimitsAt := Lib.hid (Lies.call YLimitsAt.out hb13)
  obtain ⟨k0_0, k0_1, kf0, kg0⟩ := (G13.get 1 rfl).two
  have kz0 := (G13.get 1 rfl).lt
  obtain ⟨k1_0, k1_1, k1_2⟩ := (G13.get 0 rfl).three
  have kz1 := (G13.get 0 rfl).lt
  have F13 : Hid (Fr w _ [(w.heap.size + 1, 26, #[.int .i64 b.brk, .int .i64 b.drag, .int .i64 b.drv]), (w.heap.size, 24, #[.string s, .slice (some a) ps.length c])]) := Lib.hid G13
  clear hb13 G13 F12
  clear YPlaces ZPlaces
  go_wp2_with fail
  refine (refLimitsAt_any s ps a c HOK.out.n0 HOK.out.n12 HOK.out.each _ (Fr.lies HA.out F13.out)).mono ?_
  rintro e w14 ⟨qLimitsAt, rfl, hzLimitsAt, _, hb14⟩
  rw [listF_len]
  clear k0_0 k0_1 kf0 kg0 kz0 k1_0 k1_1 k1_2 kz1
  have G14 := Fr.call F13.out hb14
  have ZLimitsAt := Lib.hid hzLimitsAt
  have YLimitsAt := Lib.hid (Lies.call YLimitsAt.out hb14)
  obtain ⟨k0_0, k0_1, kf0, kg0⟩ := (G14.get 1 rfl).two
  have kz0 := (G14.get 1 rfl).lt
  obtain ⟨k1_0, k1_1, k1_2⟩ := (G14.get 0 rfl).three
  have kz1 := (G14.get 0 rfl).lt
  have F14 : Hid (Fr w _ [(w.heap.size + 1, 26, #[.int .i64 b.brk, .int .i64 b.drag, .int .i64 b.drv]), (w.heap.size, 24, #[.string s, .slice (some a) ps.length c])]) := Lib.hid G14
  clear hb14 G14 F13
  clear hzLimitsAt
  go_wp2_with fail
  refine (Ints_listF (ps.length + 1) (limV ps) (by omega) _ _ _ _ _ YLimitsAt.out ZLimitsAt.out).mono ?_
  rintro e w15 ⟨rfl, hb15⟩
  clear k0_0 k0_1 kf0 kg0 kz0 k1_0 k1_1 k1_2 kz1
  have G15 := Fr.call F14.out hb15
  have YLimitsAt := Lib.hid (Lies.call YLimitsAt.out hb15)
  obtain ⟨k0_0, k0_1, kf0, kg0⟩ := (G15.get 1 rfl).two
  have kz0 := (G15.get 1 rfl).lt
  obtain ⟨k1_0, k1_1, k1_2⟩ := (G15.get 0 rfl).three
  have kz1 := (G15.get 0 rfl).lt
  have F15 : Hid (Fr w _ [(w.heap.size + 1, 26, #[.int .i64 b.brk, .int .i64 b.drag, .int .i64 b.drv]), (w.heap.size, 24, #[.string s, .slice (some a) ps.length c])]) := Lib.hid G15
  clear hb15 G15 F14
  clear YLimitsAt ZLimitsAt
  go_wp2_with fail
  go_ret
  exact ⟨rfl, F15.out.bl⟩

set_option maxHeartbeats 4000000 in
set_option maxRecDepth 100000 in
theorem BrakeTracks_any (s : ByteArray) (hs : s.size ≤ maxLen) (ps : List Bp) (A : Option Addr) (c : Nat) (hg : HdOk ⟨A, c⟩) (hl : ps.length ≤ maxLen) (b : Bs) (w : World) (hA : Lies w w.heap.size A (ps.flatMap pc)) : Calls Try.prog 3 #[.agg #[.string s, .slice A ps.length c], .agg #[.int .i64 b.brk, .int .i64 b.drag, .int .i64 b.drv]] w fun e w' => e = .returned (.bool true) ∧ Below w.heap.size w w' := by
  cases hsh : shortB s ps with
  | false => exact tracks_long s hs ps A c hg hl b hsh w hA
  | true =>
    rcases tr_cases s ps with ⟨_, hk⟩ | hr
    · exact tracks_ok s hs ps A c hg hl b hsh hk w hA
    · exact tracks_bad s hs ps A c hg hl b hsh _ _ rfl hr w hA
end Go.Proofs.Ytlmfpodajmmdeaa
