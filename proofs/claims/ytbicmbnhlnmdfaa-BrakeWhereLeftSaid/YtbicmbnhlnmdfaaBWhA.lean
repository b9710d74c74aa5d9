
/-
  The walk of BrakeWhereLeft: errors.
-/
import Derived.Test.YtbicmbnhlnmdfaaBKit
import Derived.Test.YtbicmbnhlnmdfaaBWhP
import Derived.Test.YtbicmbnhlnmdfaaBErr
import Derived.Test.YtbicmbnhlnmdfaaBRnA
import Derived.Test.YtbicmbnhlnmdfaaBRnC
import Derived.Test.YtbicmbnhlnmdfaaBSt2
namespace Go.Proofs.Ytbicmbnhlnmdfaa
open Go.RowKit

set_option maxHeartbeats 8000000 in
set_option maxRecDepth 100000 in
theorem wl_long (s : ByteArray) (hs : s.size ≤ maxLen) (ps : List Bp) (A : Option Addr) (c : Nat) (hg : HdOk ⟨A, c⟩) (hl : ps.length ≤ maxLen) (b : Bs) (p sq stop : Int) (hsh : shortB s ps = false) (w : World) (hA : Lies w w.heap.size A (ps.flatMap pc)) : Calls Try.prog 3 #[.agg #[.string s, .slice A ps.length c], .agg #[.int .i64 b.brk, .int .i64 b.drag, .int .i64 b.drv], .agg #[.int .i64 p, .int .i64 sq, .int .i64 stop]] w fun e w' => e = .returned (.bool true) ∧ Below w.heap.size w w' := by
  have F0 := Lib.hid (Fr.b3 w 24 #[.string s, .slice A ps.length c] 26 #[.int .i64 b.brk, .int .i64 b.drag, .int .i64 b.drv] 30 #[.int .i64 p, .int .i64 sq, .int .i64 stop])
  have HA := Lib.hid hA
  have HG := Lib.hid hg
  clear hA hg
  have HSH := Lib.hid hsh
  clear hsh
  go_enter Try.func3, Try.ntmps3
  go_wp2_with fail
  refine (awake_any _).mono ?_
  rintro e w1 ⟨rfl, hb1⟩
  have G1 := Fr.call F0.out hb1
  obtain ⟨k0_0, k0_1, kf0, kg0⟩ := (G1.get 2 rfl).two
  have kz0 := (G1.get 2 rfl).lt
  obtain ⟨k1_0, k1_1, k1_2⟩ := (G1.get 1 rfl).three
  have kz1 := (G1.get 1 rfl).lt
  obtain ⟨k2_0, k2_1, k2_2⟩ := (G1.get 0 rfl).three
  have kz2 := (G1.get 0 rfl).lt
  have F1 : Hid (Fr w _ [(w.heap.size + 1 + 1, 30, #[.int .i64 p, .int .i64 sq, .int .i64 stop]), (w.heap.size + 1, 26, #[.int .i64 b.brk, .int .i64 b.drag, .int .i64 b.drv]), (w.heap.size, 24, #[.string s, .slice A ps.length c])]) := Lib.hid G1
  clear hb1 G1 F0
  go_wp2_with fail
  refine (Short_any s hs ps A c hl _).mono ?_
  rintro e w2 ⟨rfl, hb2⟩
  rw [HSH.out]
  clear k0_0 k0_1 kf0 kg0 kz0 k1_0 k1_1 k1_2 kz1 k2_0 k2_1 k2_2 kz2
  have G2 := Fr.call F1.out hb2
  obtain ⟨k0_0, k0_1, kf0, kg0⟩ := (G2.get 2 rfl).two
  have kz0 := (G2.get 2 rfl).lt
  obtain ⟨k1_0, k1_1, k1_2⟩ := (G2.get 1 rfl).three
  have kz1 := (G2.get 1 rfl).lt
  obtain ⟨k2_0, k2_1, k2_2⟩ := (G2.get 0 rfl).three
  have kz2 := (G2.get 0 rfl).lt
  have F2 : Hid (Fr w _ [(w.heap.size + 1 + 1, 30, #[.int .i64 p, .int .i64 sq, .int .i64 stop]), (w.heap.size + 1, 26, #[.int .i64 b.brk, .int .i64 b.drag, .int .i64 b.drv]), (w.heap.size, 24, #[.string s, .slice A ps.length c])]) := Lib.hid G2
  clear hb2 G2 F1
  go_wp2_with fail
  go_ret
  exact ⟨rfl, F2.out.bl⟩

set_option maxHeartbeats 8000000 in
set_option maxRecDepth 100000 in
theorem wl_bad0 (s : ByteArray) (hs : s.size ≤ maxLen) (ps : List Bp) (A : Option Addr) (c : Nat) (hg : HdOk ⟨A, c⟩) (hl : ps.length ≤ maxLen) (b : Bs) (p sq stop : Int) (hsh : shortB s ps = true) (er : Int) (hr : er ≠ 0) (hb0 : bothE s ps b = er) (w : World) (hA : Lies w w.heap.size A (ps.flatMap pc)) : Calls Try.prog 3 #[.agg #[.string s, .slice A ps.length c], .agg #[.int .i64 b.brk, .int .i64 b.drag, .int .i64 b.drv], .agg #[.int .i64 p, .int .i64 sq, .int .i64 stop]] w fun e w' => e = .returned (.bool true) ∧ Below w.heap.size w w' := by
  have F0 := Lib.hid (Fr.b3 w 24 #[.string s, .slice A ps.length c] 26 #[.int .i64 b.brk, .int .i64 b.drag, .int .i64 b.drv] 30 #[.int .i64 p, .int .i64 sq, .int .i64 stop])
  have HA := Lib.hid hA
  have HG := Lib.hid hg
  clear hA hg
  have HSH := Lib.hid hsh
  have hl14 : ps.length ≤ 14 := (short_iff.1 hsh).2
  clear hsh
  have HE := Lib.hid hb0
  have gn : (er != 0) = true := by simp [hr]
  clear hr hb0
  go_enter Try.func3, Try.ntmps3
  go_wp2_with fail
  refine (awake_any _).mono ?_
  rintro e w1 ⟨rfl, hb1⟩
  have G1 := Fr.call F0.out hb1
  obtain ⟨k0_0, k0_1, kf0, kg0⟩ := (G1.get 2 rfl).two
  have kz0 := (G1.get 2 rfl).lt
  obtain ⟨k1_0, k1_1, k1_2⟩ := (G1.get 1 rfl).three
  have kz1 := (G1.get 1 rfl).lt
  obtain ⟨k2_0, k2_1, k2_2⟩ := (G1.get 0 rfl).three
  have kz2 := (G1.get 0 rfl).lt
  have F1 : Hid (Fr w _ [(w.heap.size + 1 + 1, 30, #[.int .i64 p, .int .i64 sq, .int .i64 stop]), (w.heap.size + 1, 26, #[.int .i64 b.brk, .int .i64 b.drag, .int .i64 b.drv]), (w.heap.size, 24, #[.string s, .slice A ps.length c])]) := Lib.hid G1
  clear hb1 G1 F0
  go_wp2_with fail
  refine (Short_any s hs ps A c hl _).mono ?_
  rintro e w2 ⟨rfl, hb2⟩
  rw [HSH.out]
  clear k0_0 k0_1 kf0 kg0 kz0 k1_0 k1_1 k1_2 kz1 k2_0 k2_1 k2_2 kz2
  have G2 := Fr.call F1.out hb2
  obtain ⟨k0_0, k0_1, kf0, kg0⟩ := (G2.get 2 rfl).two
  have kz0 := (G2.get 2 rfl).lt
  obtain ⟨k1_0, k1_1, k1_2⟩ := (G2.get 1 rfl).three
  have kz1 := (G2.get 1 rfl).lt
  obtain ⟨k2_0, k2_1, k2_2⟩ := (G2.get 0 rfl).three
  have kz2 := (G2.get 0 rfl).lt
  have F2 : Hid (Fr w _ [(w.heap.size + 1 + 1, 30, #[.int .i64 p, .int .i64 sq, .int .i64 stop]), (w.heap.size + 1, 26, #[.int .i64 b.brk, .int .i64 b.drag, .int .i64 b.drv]), (w.heap.size, 24, #[.string s, .slice A ps.length c])]) := Lib.hid G2
  clear hb2 G2 F1
  go_wp2_with fail
  refine (BothErr_any s hs ps A c hl b _ (Fr.lies HA.out F2.out)).mono ?_
  rintro e w3 ⟨rfl, hb3⟩
  rw [HE.out]
  clear k0_0 k0_1 kf0 kg0 kz0 k1_0 k1_1 k1_2 kz1 k2_0 k2_1 k2_2 kz2
  have G3 := Fr.call F2.out hb3
  obtain ⟨k0_0, k0_1, kf0, kg0⟩ := (G3.get 2 rfl).two
  have kz0 := (G3.get 2 rfl).lt
  obtain ⟨k1_0, k1_1, k1_2⟩ := (G3.get 1 rfl).three
  have kz1 := (G3.get 1 rfl).lt
  obtain ⟨k2_0, k2_1, k2_2⟩ := (G3.get 0 rfl).three
  have kz2 := (G3.get 0 rfl).lt
  have F3 : Hid (Fr w _ [(w.heap.size + 1 + 1, 30, #[.int .i64 p, .int .i64 sq, .int .i64 stop]), (w.heap.size + 1, 26, #[.int .i64 b.brk, .int .i64 b.drag, .int .i64 b.drv]), (w.heap.size, 24, #[.string s, .slice A ps.length c])]) := Lib.hid G3
  clear hb3 G3 F2
  go_wp2_with fail
  go_ret
  exact ⟨rfl, F3.out.bl⟩

set_option maxHeartbeats 8000000 in
set_option maxRecDepth 100000 in
theorem wl_bad1 (s : ByteArray) (hs : s.size ≤ maxLen) (ps : List Bp) (A : Option Addr) (c : Nat) (hg : HdOk ⟨A, c⟩) (hl : ps.length ≤ maxLen) (b : Bs) (p sq stop : Int) (hsh : shortB s ps = true) (er : Int) (hr : er ≠ 0) (h0 : bothE s ps b = 0) (hb0 : stateE ps p sq = er) (w : World) (hA : Lies w w.heap.size A (ps.flatMap pc)) : Calls Try.prog 3 #[.agg #[.string s, .slice A ps.length c], .agg #[.int .i64 b.brk, .int .i64 b.drag, .int .i64 b.drv], .agg #[.int .i64 p, .int .i64 sq, .int .i64 stop]] w fun e w' => e = .returned (.bool true) ∧ Below w.heap.size w w' := by
  have F0 := Lib.hid (Fr.b3 w 24 #[.string s, .slice A ps.length c] 26 #[.int .i64 b.brk, .int .i64 b.drag, .int .i64 b.drv] 30 #[.int .i64 p, .int .i64 sq, .int .i64 stop])
  have HA := Lib.hid hA
  have HG := Lib.hid hg
  clear hA hg
  have HSH := Lib.hid hsh
  have hl14 : ps.length ≤ 14 := (short_iff.1 hsh).2
  clear hsh
  have HE := Lib.hid hb0
  have gn : (er != 0) = true := by simp [hr]
  clear hr hb0
  have H0 := Lib.hid h0
  clear h0
  go_enter Try.func3, Try.ntmps3
  go_wp2_with fail
  refine (awake_any _).mono ?_
  rintro e w1 ⟨rfl, hb1⟩
  have G1 := Fr.call F0.out hb1
  obtain ⟨k0_0, k0_1, kf0, kg0⟩ := (G1.get 2 rfl).two
  have kz0 := (G1.get 2 rfl).lt
  obtain ⟨k1_0, k1_1, k1_2⟩ := (G1.get 1 rfl).three
  have kz1 := (G1.get 1 rfl).lt
  obtain ⟨k2_0, k2_1, k2_2⟩ := (G1.get 0 rfl).three
  have kz2 := (G1.get 0 rfl).lt
  have F1 : Hid (Fr w _ [(w.heap.size + 1 + 1, 30, #[.int .i64 p, .int .i64 sq, .int .i64 stop]), (w.heap.size + 1, 26, #[.int .i64 b.brk, .int .i64 b.drag, .int .i64 b.drv]), (w.heap.size, 24, #[.string s, .slice A ps.length c])]) := Lib.hid G1
  clear hb1 G1 F0
  go_wp2_with fail
  refine (Short_any s hs ps A c hl _).mono ?_
  rintro e w2 ⟨rfl, hb2⟩
  rw [HSH.out]
  clear k0_0 k0_1 kf0 kg0 kz0 k1_0 k1_1 k1_2 kz1 k2_0 k2_1 k2_2 kz2
  have G2 := Fr.call F1.out hb2
  obtain ⟨k0_0, k0_1, kf0, kg0⟩ := (G2.get 2 rfl).two
  have kz0 := (G2.get 2 rfl).lt
  obtain ⟨k1_0, k1_1, k1_2⟩ := (G2.get 1 rfl).three
  have kz1 := (G2.get 1 rfl).lt
  obtain ⟨k2_0, k2_1, k2_2⟩ := (G2.get 0 rfl).three
  have kz2 := (G2.get 0 rfl).lt
  have F2 : Hid (Fr w _ [(w.heap.size + 1 + 1, 30, #[.int .i64 p, .int .i64 sq, .int .i64 stop]), (w.heap.size + 1, 26, #[.int .i64 b.brk, .int .i64 b.drag, .int .i64 b.drv]), (w.heap.size, 24, #[.string s, .slice A ps.length c])]) := Lib.hid G2
  clear hb2 G2 F1
  go_wp2_with fail
  refine (BothErr_any s hs ps A c hl b _ (Fr.lies HA.out F2.out)).mono ?_
  rintro e w3 ⟨rfl, hb3⟩
  rw [H0.out]
  clear k0_0 k0_1 kf0 kg0 kz0 k1_0 k1_1 k1_2 kz1 k2_0 k2_1 k2_2 kz2
  have G3 := Fr.call F2.out hb3
  obtain ⟨k0_0, k0_1, kf0, kg0⟩ := (G3.get 2 rfl).two
  have kz0 := (G3.get 2 rfl).lt
  obtain ⟨k1_0, k1_1, k1_2⟩ := (G3.get 1 rfl).three
  have kz1 := (G3.get 1 rfl).lt
  obtain ⟨k2_0, k2_1, k2_2⟩ := (G3.get 0 rfl).three
  have kz2 := (G3.get 0 rfl).lt
  have F3 : Hid (Fr w _ [(w.heap.size + 1 + 1, 30, #[.int .i64 p, .int .i64 sq, .int .i64 stop]), (w.heap.size + 1, 26, #[.int .i64 b.brk, .int .i64 b.drag, .int .i64 b.drv]), (w.heap.size, 24, #[.string s, .slice A ps.length c])]) := Lib.hid G3
  clear hb3 G3 F2
  go_wp2_with fail
  refine (StateErr_any s ps A c (by omega) p sq _).mono ?_
  rintro e w4 ⟨rfl, hb4⟩
  rw [HE.out]
  clear k0_0 k0_1 kf0 kg0 kz0 k1_0 k1_1 k1_2 kz1 k2_0 k2_1 k2_2 kz2
  have G4 := Fr.call F3.out hb4
  obtain ⟨k0_0, k0_1, kf0, kg0⟩ := (G4.get 2 rfl).two
  have kz0 := (G4.get 2 rfl).lt
  obtain ⟨k1_0, k1_1, k1_2⟩ := (G4.get 1 rfl).three
  have kz1 := (G4.get 1 rfl).lt
  obtain ⟨k2_0, k2_1, k2_2⟩ := (G4.get 0 rfl).three
  have kz2 := (G4.get 0 rfl).lt
  have F4 : Hid (Fr w _ [(w.heap.size + 1 + 1, 30, #[.int .i64 p, .int .i64 sq, .int .i64 stop]), (w.heap.size + 1, 26, #[.int .i64 b.brk, .int .i64 b.drag, .int .i64 b.drv]), (w.heap.size, 24, #[.string s, .slice A ps.length c])]) := Lib.hid G4
  clear hb4 G4 F3
  go_wp2_with fail
  go_ret
  exact ⟨rfl, F4.out.bl⟩

set_option maxHeartbeats 8000000 in
set_option maxRecDepth 100000 in
theorem wl_bad2 (s : ByteArray) (hs : s.size ≤ maxLen) (ps : List Bp) (A : Option Addr) (c : Nat) (hg : HdOk ⟨A, c⟩) (hl : ps.length ≤ maxLen) (b : Bs) (p sq stop : Int) (hsh : shortB s ps = true) (er : Int) (hr : er ≠ 0) (h0 : bothE s ps b = 0) (h1 : stateE ps p sq = 0) (hb0 : stopE ps stop = er) (w : World) (hA : Lies w w.heap.size A (ps.flatMap pc)) : Calls Try.prog 3 #[.agg #[.string s, .slice A ps.length c], .agg #[.int .i64 b.brk, .int .i64 b.drag, .int .i64 b.drv], .agg #[.int .i64 p, .int .i64 sq, .int .i64 stop]] w fun e w' => e = .returned (.bool true) ∧ Below w.heap.size w w' := by
  have F0 := Lib.hid (Fr.b3 w 24 #[.string s, .slice A ps.length c] 26 #[.int .i64 b.brk, .int .i64 b.drag, .int .i64 b.drv] 30 #[.int .i64 p, .int .i64 sq, .int .i64 stop])
  have HA := Lib.hid hA
  have HG := Lib.hid hg
  clear hA hg
  have HSH := Lib.hid hsh
  have hl14 : ps.length ≤ 14 := (short_iff.1 hsh).2
  clear hsh
  have HE := Lib.hid hb0
  have gn : (er != 0) = true := by simp [hr]
  clear hr hb0
  have H0 := Lib.hid h0
  have H1 := Lib.hid h1
  clear h0 h1
  go_enter Try.func3, Try.ntmps3
  go_wp2_with fail
  refine (awake_any _).mono ?_
  rintro e w1 ⟨rfl, hb1⟩
  have G1 := Fr.call F0.out hb1
  obtain ⟨k0_0, k0_1, kf0, kg0⟩ := (G1.get 2 rfl).two
  have kz0 := (G1.get 2 rfl).lt
  obtain ⟨k1_0, k1_1, k1_2⟩ := (G1.get 1 rfl).three
  have kz1 := (G1.get 1 rfl).lt
  obtain ⟨k2_0, k2_1, k2_2⟩ := (G1.get 0 rfl).three
  have kz2 := (G1.get 0 rfl).lt
  have F1 : Hid (Fr w _ [(w.heap.size + 1 + 1, 30, #[.int .i64 p, .int .i64 sq, .int .i64 stop]), (w.heap.size + 1, 26, #[.int .i64 b.brk, .int .i64 b.drag, .int .i64 b.drv]), (w.heap.size, 24, #[.string s, .slice A ps.length c])]) := Lib.hid G1
  clear hb1 G1 F0
  go_wp2_with fail
  refine (Short_any s hs ps A c hl _).mono ?_
  rintro e w2 ⟨rfl, hb2⟩
  rw [HSH.out]
  clear k0_0 k0_1 kf0 kg0 kz0 k1_0 k1_1 k1_2 kz1 k2_0 k2_1 k2_2 kz2
  have G2 := Fr.call F1.out hb2
  obtain ⟨k0_0, k0_1, kf0, kg0⟩ := (G2.get 2 rfl).two
  have kz0 := (G2.get 2 rfl).lt
  obtain ⟨k1_0, k1_1, k1_2⟩ := (G2.get 1 rfl).three
  have kz1 := (G2.get 1 rfl).lt
  obtain ⟨k2_0, k2_1, k2_2⟩ := (G2.get 0 rfl).three
  have kz2 := (G2.get 0 rfl).lt
  have F2 : Hid (Fr w _ [(w.heap.size + 1 + 1, 30, #[.int .i64 p, .int .i64 sq, .int .i64 stop]), (w.heap.size + 1, 26, #[.int .i64 b.brk, .int .i64 b.drag, .int .i64 b.drv]), (w.heap.size, 24, #[.string s, .slice A ps.length c])]) := Lib.hid G2
  clear hb2 G2 F1
  go_wp2_with fail
  refine (BothErr_any s hs ps A c hl b _ (Fr.lies HA.out F2.out)).mono ?_
  rintro e w3 ⟨rfl, hb3⟩
  rw [H0.out]
  clear k0_0 k0_1 kf0 kg0 kz0 k1_0 k1_1 k1_2 kz1 k2_0 k2_1 k2_2 kz2
  have G3 := Fr.call F2.out hb3
  obtain ⟨k0_0, k0_1, kf0, kg0⟩ := (G3.get 2 rfl).two
  have kz0 := (G3.get 2 rfl).lt
  obtain ⟨k1_0, k1_1, k1_2⟩ := (G3.get 1 rfl).three
  have kz1 := (G3.get 1 rfl).lt
  obtain ⟨k2_0, k2_1, k2_2⟩ := (G3.get 0 rfl).three
  have kz2 := (G3.get 0 rfl).lt
  have F3 : Hid (Fr w _ [(w.heap.size + 1 + 1, 30, #[.int .i64 p, .int .i64 sq, .int .i64 stop]), (w.heap.size + 1, 26, #[.int .i64 b.brk, .int .i64 b.drag, .int .i64 b.drv]), (w.heap.size, 24, #[.string s, .slice A ps.length c])]) := Lib.hid G3
  clear hb3 G3 F2
  go_wp2_with fail
  refine (StateErr_any s ps A c (by omega) p sq _).mono ?_
  rintro e w4 ⟨rfl, hb4⟩
  rw [H1.out]
  clear k0_0 k0_1 kf0 kg0 kz0 k1_0 k1_1 k1_2 kz1 k2_0 k2_1 k2_2 kz2
  have G4 := Fr.call F3.out hb4
  obtain ⟨k0_0, k0_1, kf0, kg0⟩ := (G4.get 2 rfl).two
  have kz0 := (G4.get 2 rfl).lt
  obtain ⟨k1_0, k1_1, k1_2⟩ := (G4.get 1 rfl).three
  have kz1 := (G4.get 1 rfl).lt
  obtain ⟨k2_0, k2_1, k2_2⟩ := (G4.get 0 rfl).three
  have kz2 := (G4.get 0 rfl).lt
  have F4 : Hid (Fr w _ [(w.heap.size + 1 + 1, 30, #[.int .i64 p, .int .i64 sq, .int .i64 stop]), (w.heap.size + 1, 26, #[.int .i64 b.brk, .int .i64 b.drag, .int .i64 b.drv]), (w.heap.size, 24, #[.string s, .slice A ps.length c])]) := Lib.hid G4
  clear hb4 G4 F3
  go_wp2_with fail
  refine (StopErr_any s ps A c (by omega) stop _ (Fr.lies HA.out F4.out)).mono ?_
  rintro e w5 ⟨rfl, hb5⟩
  rw [HE.out]
  clear k0_0 k0_1 kf0 kg0 kz0 k1_0 k1_1 k1_2 kz1 k2_0 k2_1 k2_2 kz2
  have G5 := Fr.call F4.out hb5
  obtain ⟨k0_0, k0_1, kf0, kg0⟩ := (G5.get 2 rfl).two
  have kz0 := (G5.get 2 rfl).lt
  obtain ⟨k1_0, k1_1, k1_2⟩ := (G5.get 1 rfl).three
  have kz1 := (G5.get 1 rfl).lt
  obtain ⟨k2_0, k2_1, k2_2⟩ := (G5.get 0 rfl).three
  have kz2 := (G5.get 0 rfl).lt
  have F5 : Hid (Fr w _ [(w.heap.size + 1 + 1, 30, #[.int .i64 p, .int .i64 sq, .int .i64 stop]), (w.heap.size + 1, 26, #[.int .i64 b.brk, .int .i64 b.drag, .int .i64 b.drv]), (w.heap.size, 24, #[.string s, .slice A ps.length c])]) := Lib.hid G5
  clear hb5 G5 F4
  go_wp2_with fail
  go_ret
  exact ⟨rfl, F5.out.bl⟩

set_option maxHeartbeats 8000000 in
set_option maxRecDepth 100000 in
theorem wl_bad3 (s : ByteArray) (hs : s.size ≤ maxLen) (ps : List Bp) (A : Option Addr) (c : Nat) (hg : HdOk ⟨A, c⟩) (hl : ps.length ≤ maxLen) (b : Bs) (p sq stop : Int) (hsh : shortB s ps = true) (h0 : bothE s ps b = 0) (h1 : stateE ps p sq = 0) (h2 : stopE ps stop = 0) (hb0 : stop < p) (w : World) (hA : Lies w w.heap.size A (ps.flatMap pc)) : Calls Try.prog 3 #[.agg #[.string s, .slice A ps.length c], .agg #[.int .i64 b.brk, .int .i64 b.drag, .int .i64 b.drv], .agg #[.int .i64 p, .int .i64 sq, .int .i64 stop]] w fun e w' => e = .returned (.bool true) ∧ Below w.heap.size w w' := by
  have F0 := Lib.hid (Fr.b3 w 24 #[.string s, .slice A ps.length c] 26 #[.int .i64 b.brk, .int .i64 b.drag, .int .i64 b.drv] 30 #[.int .i64 p, .int .i64 sq, .int .i64 stop])
  have HA := Lib.hid hA
  have HG := Lib.hid hg
  clear hA hg
  have HSH := Lib.hid hsh
  have hl14 : ps.length ≤ 14 := (short_iff.1 hsh).2
  clear hsh
  have hgt : stop < p := hb0
  have H0 := Lib.hid h0
  have H1 := Lib.hid h1
  have H2 := Lib.hid h2
  clear h0 h1 h2
  go_enter Try.func3, Try.ntmps3
  go_wp2_with fail
  refine (awake_any _).mono ?_
  rintro e w1 ⟨rfl, hb1⟩
  have G1 := Fr.call F0.out hb1
  obtain ⟨k0_0, k0_1, kf0, kg0⟩ := (G1.get 2 rfl).two
  have kz0 := (G1.get 2 rfl).lt
  obtain ⟨k1_0, k1_1, k1_2⟩ := (G1.get 1 rfl).three
  have kz1 := (G1.get 1 rfl).lt
  obtain ⟨k2_0, k2_1, k2_2⟩ := (G1.get 0 rfl).three
  have kz2 := (G1.get 0 rfl).lt
  have F1 : Hid (Fr w _ [(w.heap.size + 1 + 1, 30, #[.int .i64 p, .int .i64 sq, .int .i64 stop]), (w.heap.size + 1, 26, #[.int .i64 b.brk, .int .i64 b.drag, .int .i64 b.drv]), (w.heap.size, 24, #[.string s, .slice A ps.length c])]) := Lib.hid G1
  clear hb1 G1 F0
  go_wp2_with fail
  refine (Short_any s hs ps A c hl _).mono ?_
  rintro e w2 ⟨rfl, hb2⟩
  rw [HSH.out]
  clear k0_0 k0_1 kf0 kg0 kz0 k1_0 k1_1 k1_2 kz1 k2_0 k2_1 k2_2 kz2
  have G2 := Fr.call F1.out hb2
  obtain ⟨k0_0, k0_1, kf0, kg0⟩ := (G2.get 2 rfl).two
  have kz0 := (G2.get 2 rfl).lt
  obtain ⟨k1_0, k1_1, k1_2⟩ := (G2.get 1 rfl).three
  have kz1 := (G2.get 1 rfl).lt
  obtain ⟨k2_0, k2_1, k2_2⟩ := (G2.get 0 rfl).three
  have kz2 := (G2.get 0 rfl).lt
  have F2 : Hid (Fr w _ [(w.heap.size + 1 + 1, 30, #[.int .i64 p, .int .i64 sq, .int .i64 stop]), (w.heap.size + 1, 26, #[.int .i64 b.brk, .int .i64 b.drag, .int .i64 b.drv]), (w.heap.size, 24, #[.string s, .slice A ps.length c])]) := Lib.hid G2
  clear hb2 G2 F1
  go_wp2_with fail
  refine (BothErr_any s hs ps A c hl b _ (Fr.lies HA.out F2.out)).mono ?_
  rintro e w3 ⟨rfl, hb3⟩
  rw [H0.out]
  clear k0_0 k0_1 kf0 kg0 kz0 k1_0 k1_1 k1_2 kz1 k2_0 k2_1 k2_2 kz2
  have G3 := Fr.call F2.out hb3
  obtain ⟨k0_0, k0_1, kf0, kg0⟩ := (G3.get 2 rfl).two
  have kz0 := (G3.get 2 rfl).lt
  obtain ⟨k1_0, k1_1, k1_2⟩ := (G3.get 1 rfl).three
  have kz1 := (G3.get 1 rfl).lt
  obtain ⟨k2_0, k2_1, k2_2⟩ := (G3.get 0 rfl).three
  have kz2 := (G3.get 0 rfl).lt
  have F3 : Hid (Fr w _ [(w.heap.size + 1 + 1, 30, #[.int .i64 p, .int .i64 sq, .int .i64 stop]), (w.heap.size + 1, 26, #[.int .i64 b.brk, .int .i64 b.drag, .int .i64 b.drv]), (w.heap.size, 24, #[.string s, .slice A ps.length c])]) := Lib.hid G3
  clear hb3 G3 F2
  go_wp2_with fail
  refine (StateErr_any s ps A c (by omega) p sq _).mono ?_
  rintro e w4 ⟨rfl, hb4⟩
  rw [H1.out]
  clear k0_0 k0_1 kf0 kg0 kz0 k1_0 k1_1 k1_2 kz1 k2_0 k2_1 k2_2 kz2
  have G4 := Fr.call F3.out hb4
  obtain ⟨k0_0, k0_1, kf0, kg0⟩ := (G4.get 2 rfl).two
  have kz0 := (G4.get 2 rfl).lt
  obtain ⟨k1_0, k1_1, k1_2⟩ := (G4.get 1 rfl).three
  have kz1 := (G4.get 1 rfl).lt
  obtain ⟨k2_0, k2_1, k2_2⟩ := (G4.get 0 rfl).three
  have kz2 := (G4.get 0 rfl).lt
  have F4 : Hid (Fr w _ [(w.heap.size + 1 + 1, 30, #[.int .i64 p, .int .i64 sq, .int .i64 stop]), (w.heap.size + 1, 26, #[.int .i64 b.brk, .int .i64 b.drag, .int .i64 b.drv]), (w.heap.size, 24, #[.string s, .slice A ps.length c])]) := Lib.hid G4
  clear hb4 G4 F3
  go_wp2_with fail
  refine (StopErr_any s ps A c (by omega) stop _ (Fr.lies HA.out F4.out)).mono ?_
  rintro e w5 ⟨rfl, hb5⟩
  rw [H2.out]
  clear k0_0 k0_1 kf0 kg0 kz0 k1_0 k1_1 k1_2 kz1 k2_0 k2_1 k2_2 kz2
  have G5 := Fr.call F4.out hb5
  obtain ⟨k0_0, k0_1, kf0, kg0⟩ := (G5.get 2 rfl).two
  have kz0 := (G5.get 2 rfl).lt
  obtain ⟨k1_0, k1_1, k1_2⟩ := (G5.get 1 rfl).three
  have kz1 := (G5.get 1 rfl).lt
  obtain ⟨k2_0, k2_1, k2_2⟩ := (G5.get 0 rfl).three
  have kz2 := (G5.get 0 rfl).lt
  have F5 : Hid (Fr w _ [(w.heap.size + 1 + 1, 30, #[.int .i64 p, .int .i64 sq, .int .i64 stop]), (w.heap.size + 1, 26, #[.int .i64 b.brk, .int .i64 b.drag, .int .i64 b.drv]), (w.heap.size, 24, #[.string s, .slice A ps.length c])]) := Lib.hid G5
  clear hb5 G5 F4
  go_wp2_with fail
  go_ret
  exact ⟨rfl, F5.out.bl⟩

set_option maxHeartbeats 8000000 in
set_option maxRecDepth 100000 in
theorem wl_err (s : ByteArray) (hs : s.size ≤ maxLen) (ps : List Bp) (A : Option Addr) (c : Nat) (hg : HdOk ⟨A, c⟩) (hl : ps.length ≤ maxLen) (b : Bs) (p k : Nat) (sq : Int) (hsh : shortB s ps = true) (h0 : bothE s ps b = 0) (h1 : stateE ps (p : Int) sq = 0) (h2 : stopE ps (k : Int) = 0) (hpk : p ≤ k) (er : Int) (her : runE ps b k p sq = er) (hr : er ≠ 0) (w : World) (hA : Lies w w.heap.size A (ps.flatMap pc)) : Calls Try.prog 3 #[.agg #[.string s, .slice A ps.length c], .agg #[.int .i64 b.brk, .int .i64 b.drag, .int .i64 b.drv], .agg #[.int .i64 (p : Int), .int .i64 sq, .int .i64 (k : Int)]] w fun e w' => e = .returned (.bool true) ∧ Below w.heap.size w w' := by
  obtain ⟨hok, hb⟩ := bothE_zero h0
  obtain ⟨k2, hk2, hk, hlv⟩ := stopE_ok h2
  obtain rfl : k = k2 := by omega
  clear hk2
  obtain ⟨p2, hp2, _, hq0, hq1⟩ := stateE_ok h1
  clear hp2
  have hq : 0 ≤ sq ∧ sq ≤ 20000000000 := ⟨hq0, hq1⟩
  obtain ⟨a, rfl⟩ := ps_some hA hok.n0
  have hsb : sE b = 0 := sE_of hb
  have HTH := Lib.hid (runE_three ps b k p sq)
  rw [her] at HTH
  have HRT : Hid (∀ (A' : Option Addr) (c' : Nat) (W : World), Lies W W.heap.size A' (ps.flatMap pc) → Calls Try.prog 12 #[.agg #[.string s, .slice A' ps.length c'], .agg #[.int .i64 b.brk, .int .i64 b.drag, .int .i64 b.drv], .agg #[.int .i64 (p : Int), .int .i64 sq], .int .i64 (k : Int)] W fun e w' => ∃ g : Hd, e = .returned (.tuple #[.slice g.A 0 g.c, .int .i64 er]) ∧ Below W.heap.size W w') := Lib.hid (fun A' c' W h => by obtain ⟨a', rfl⟩ := ps_some h hok.n0; have := RunTo_ok s hs ps a' c' (by have := hok.n12; omega) b hok hb hsb k p hk hlv hpk sq hq W h; rw [her] at this; exact this.mono fun _ _ h => rowE_bad hr h)
  have gn : (er != 0) = true := by simp [hr]
  have F0 := Lib.hid (Fr.b3 w 24 #[.string s, .slice (some a) ps.length c] 26 #[.int .i64 b.brk, .int .i64 b.drag, .int .i64 b.drv] 30 #[.int .i64 (p : Int), .int .i64 sq, .int .i64 (k : Int)])
  have HA := Lib.hid hA
  have HG := Lib.hid hg
  clear hA hg
  have HSH := Lib.hid hsh
  have hl14 : ps.length ≤ 14 := (short_iff.1 hsh).2
  clear hsh
  have H0 := Lib.hid h0
  have H1 := Lib.hid h1
  have H2 := Lib.hid h2
  have hpk4 : decide (k < p) = false := decide_eq_false (by omega)
  have hpk5 : ¬ (k < p) := by omega
  have h12 := hok.n12
  have HRR := Lib.hid hr
  clear hok hb hsb h0 h1 h2 hlv hk hq hq0 hq1 hr her
  go_enter Try.func3, Try.ntmps3
  go_wp2_with fail
  refine (awake_any _).mono ?_
  rintro e w1 ⟨rfl, hb1⟩
  have G1 := Fr.call F0.out hb1
  obtain ⟨k0_0, k0_1, kf0, kg0⟩ := (G1.get 2 rfl).two
  have kz0 := (G1.get 2 rfl).lt
  obtain ⟨k1_0, k1_1, k1_2⟩ := (G1.get 1 rfl).three
  have kz1 := (G1.get 1 rfl).lt
  obtain ⟨k2_0, k2_1, k2_2⟩ := (G1.get 0 rfl).three
  have kz2 := (G1.get 0 rfl).lt
  have F1 : Hid (Fr w _ [(w.heap.size + 1 + 1, 30, #[.int .i64 (p : Int), .int .i64 sq, .int .i64 (k : Int)]), (w.heap.size + 1, 26, #[.int .i64 b.brk, .int .i64 b.drag, .int .i64 b.drv]), (w.heap.size, 24, #[.string s, .slice (some a) ps.length c])]) := Lib.hid G1
  clear hb1 G1 F0
  go_wp2_with fail
  refine (Short_any s hs ps (some a) c hl _).mono ?_
  rintro e w2 ⟨rfl, hb2⟩
  rw [HSH.out]
  clear k0_0 k0_1 kf0 kg0 kz0 k1_0 k1_1 k1_2 kz1 k2_0 k2_1 k2_2 kz2
  have G2 := Fr.call F1.out hb2
  obtain ⟨k0_0, k0_1, kf0, kg0⟩ := (G2.get 2 rfl).two
  have kz0 := (G2.get 2 rfl).lt
  obtain ⟨k1_0, k1_1, k1_2⟩ := (G2.get 1 rfl).three
  have kz1 := (G2.get 1 rfl).lt
  obtain ⟨k2_0, k2_1, k2_2⟩ := (G2.get 0 rfl).three
  have kz2 := (G2.get 0 rfl).lt
  have F2 : Hid (Fr w _ [(w.heap.size + 1 + 1, 30, #[.int .i64 (p : Int), .int .i64 sq, .int .i64 (k : Int)]), (w.heap.size + 1, 26, #[.int .i64 b.brk, .int .i64 b.drag, .int .i64 b.drv]), (w.heap.size, 24, #[.string s, .slice (some a) ps.length c])]) := Lib.hid G2
  clear hb2 G2 F1
  go_wp2_with fail
  refine (BothErr_any s hs ps (some a) c hl b _ (Fr.lies HA.out F2.out)).mono ?_
  rintro e w3 ⟨rfl, hb3⟩
  rw [H0.out]
  clear k0_0 k0_1 kf0 kg0 kz0 k1_0 k1_1 k1_2 kz1 k2_0 k2_1 k2_2 kz2
  have G3 := Fr.call F2.out hb3
  obtain ⟨k0_0, k0_1, kf0, kg0⟩ := (G3.get 2 rfl).two
  have kz0 := (G3.get 2 rfl).lt
  obtain ⟨k1_0, k1_1, k1_2⟩ := (G3.get 1 rfl).three
  have kz1 := (G3.get 1 rfl).lt
  obtain ⟨k2_0, k2_1, k2_2⟩ := (G3.get 0 rfl).three
  have kz2 := (G3.get 0 rfl).lt
  have F3 : Hid (Fr w _ [(w.heap.size + 1 + 1, 30, #[.int .i64 (p : Int), .int .i64 sq, .int .i64 (k : Int)]), (w.heap.size + 1, 26, #[.int .i64 b.brk, .int .i64 b.drag, .int .i64 b.drv]), (w.heap.size, 24, #[.string s, .slice (some a) ps.length c])]) := Lib.hid G3
  clear hb3 G3 F2
  go_wp2_with fail
  refine (StateErr_any s ps (some a) c (by omega) (p : Int) sq _).mono ?_
  rintro e w4 ⟨rfl, hb4⟩
  rw [H1.out]
  clear k0_0 k0_1 kf0 kg0 kz0 k1_0 k1_1 k1_2 kz1 k2_0 k2_1 k2_2 kz2
  have G4 := Fr.call F3.out hb4
  obtain ⟨k0_0, k0_1, kf0, kg0⟩ := (G4.get 2 rfl).two
  have kz0 := (G4.get 2 rfl).lt
  obtain ⟨k1_0, k1_1, k1_2⟩ := (G4.get 1 rfl).three
  have kz1 := (G4.get 1 rfl).lt
  obtain ⟨k2_0, k2_1, k2_2⟩ := (G4.get 0 rfl).three
  have kz2 := (G4.get 0 rfl).lt
  have F4 : Hid (Fr w _ [(w.heap.size + 1 + 1, 30, #[.int .i64 (p : Int), .int .i64 sq, .int .i64 (k : Int)]), (w.heap.size + 1, 26, #[.int .i64 b.brk, .int .i64 b.drag, .int .i64 b.drv]), (w.heap.size, 24, #[.string s, .slice (some a) ps.length c])]) := Lib.hid G4
  clear hb4 G4 F3
  go_wp2_with fail
  refine (StopErr_any s ps (some a) c (by omega) (k : Int) _ (Fr.lies HA.out F4.out)).mono ?_
  rintro e w5 ⟨rfl, hb5⟩
  rw [H2.out]
  clear k0_0 k0_1 kf0 kg0 kz0 k1_0 k1_1 k1_2 kz1 k2_0 k2_1 k2_2 kz2
  have G5 := Fr.call F4.out hb5
  obtain ⟨k0_0, k0_1, kf0, kg0⟩ := (G5.get 2 rfl).two
  have kz0 := (G5.get 2 rfl).lt
  obtain ⟨k1_0, k1_1, k1_2⟩ := (G5.get 1 rfl).three
  have kz1 := (G5.get 1 rfl).lt
  obtain ⟨k2_0, k2_1, k2_2⟩ := (G5.get 0 rfl).three
  have kz2 := (G5.get 0 rfl).lt
  have F5 : Hid (Fr w _ [(w.heap.size + 1 + 1, 30, #[.int .i64 (p : Int), .int .i64 sq, .int .i64 (k : Int)]), (w.heap.size + 1, 26, #[.int .i64 b.brk, .int .i64 b.drag, .int .i64 b.drv]), (w.heap.size, 24, #[.string s, .slice (some a) ps.length c])]) := Lib.hid G5
  clear hb5 G5 F4
  go_upto_region 5 with fail
  clear k0_0 k0_1 kf0 kg0 kz0 k1_0 k1_1 k1_2 kz1 k2_0 k2_1 k2_2 kz2
  go_cut [7, 8] from 53 to 63 (fun r e W => (∃ g : Hd, r = .slice g.A 0 g.c ∧ e = .int .i64 er) ∧ Fr w5 W [])
  case first =>
    have HALL : Hid (∀ W, Fr w5 W [] → Fr w5 W [] ∧ W.cell? ⟨w.heap.size, 0, none⟩ = some (.string s) ∧ W.cell? ⟨w.heap.size, 1, none⟩ = some (.slice (some a) ps.length c) ∧ W.cell? ⟨w.heap.size + 1, 0, none⟩ = some (.int .i64 b.brk) ∧ W.cell? ⟨w.heap.size + 1, 1, none⟩ = some (.int .i64 b.drag) ∧ W.cell? ⟨w.heap.size + 1, 2, none⟩ = some (.int .i64 b.drv) ∧ W.cell? ⟨w.heap.size + 1 + 1, 0, none⟩ = some (.int .i64 (p : Int)) ∧ W.cell? ⟨w.heap.size + 1 + 1, 1, none⟩ = some (.int .i64 sq) ∧ W.cell? ⟨w.heap.size + 1 + 1, 2, none⟩ = some (.int .i64 (k : Int))) := Lib.hid (fun W hW => ⟨hW, ((F5.out.get 2 rfl).call hW.bl).cell 0, ((F5.out.get 2 rfl).call hW.bl).cell 1, ((F5.out.get 1 rfl).call hW.bl).cell 0, ((F5.out.get 1 rfl).call hW.bl).cell 1, ((F5.out.get 1 rfl).call hW.bl).cell 2, ((F5.out.get 0 rfl).call hW.bl).cell 0, ((F5.out.get 0 rfl).call hW.bl).cell 1, ((F5.out.get 0 rfl).call hW.bl).cell 2⟩)
    have HAC := Lib.hid (Fr.lies HA.out F5.out)
    have F10 : Fr w5 _ [] := Fr.nil w5
    go_region_held3 (fun W => Fr w5 W [] ∧ W.cell? ⟨w.heap.size, 0, none⟩ = some (.string s) ∧ W.cell? ⟨w.heap.size, 1, none⟩ = some (.slice (some a) ps.length c) ∧ W.cell? ⟨w.heap.size + 1, 0, none⟩ = some (.int .i64 b.brk) ∧ W.cell? ⟨w.heap.size + 1, 1, none⟩ = some (.int .i64 b.drag) ∧ W.cell? ⟨w.heap.size + 1, 2, none⟩ = some (.int .i64 b.drv) ∧ W.cell? ⟨w.heap.size + 1 + 1, 0, none⟩ = some (.int .i64 (p : Int)) ∧ W.cell? ⟨w.heap.size + 1 + 1, 1, none⟩ = some (.int .i64 sq) ∧ W.cell? ⟨w.heap.size + 1 + 1, 2, none⟩ = some (.int .i64 (k : Int)))
        ((go_split_ands; refine HALL.out _ ?_; (first | assumption | (repeat (first | assumption | refine Fr.new ?_ _ | refine Fr.drew ?_ | (refine Fr.set ?_ (by first | exact Nat.le_refl _ | omega | (simp; done) | (simp; omega)) (by first | (simp; done) | (simp; omega)) _))); done)))
        ((first
          | (go_at_call 13; go_split_ands; (with_reducible refine (Copy_any s ps ⟨(some a), c⟩ (by omega) HG.out _ (Fr.lies HAC.out (by assumption))).mono ?_); rintro e w1 ⟨g2, rfl, hl2, hk2, hb1⟩; have HL2 := Lib.hid hl2; have F4 := Fr.call (by assumption) hb1; clear hb1 hl2 hk2)
          | (go_at_call 12; go_split_ands; (with_reducible refine (HRT.out _ _ _ HL2.out).mono ?_); rintro e w1 ⟨g3, rfl, hb1⟩; have F5 := Fr.call (by assumption) hb1; clear hb1)
          | fail "arm"))
    all_goals
      go_split_ands
      go_wp2_with fail
      go_meet
      exact ⟨⟨g3, rfl, rfl⟩, by assumption⟩
  case rest =>
    obtain ⟨wx1, rfl⟩ : ∃ W, W = wc := ⟨_, rfl⟩
    obtain ⟨⟨gx, rfl, rfl⟩, hx⟩ := hcut
    have FC1 := Lib.hid (F5.out.call hx.bl)
    clear hx F5
    obtain ⟨k0_0, k0_1, kf0, kg0⟩ := (FC1.out.get 2 rfl).two
    have kz0 := (FC1.out.get 2 rfl).lt
    obtain ⟨k1_0, k1_1, k1_2⟩ := (FC1.out.get 1 rfl).three
    have kz1 := (FC1.out.get 1 rfl).lt
    obtain ⟨k2_0, k2_1, k2_2⟩ := (FC1.out.get 0 rfl).three
    have kz2 := (FC1.out.get 0 rfl).lt
    rcases HTH.out with e0 | e0 | e0
    · exact absurd e0 HRR.out
    all_goals
      subst e0
      go_wp2_with fail
      go_ret
      exact ⟨rfl, FC1.out.bl⟩

end Go.Proofs.Ytbicmbnhlnmdfaa
