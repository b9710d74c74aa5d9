
/-
  The walk of BrakeTwoWays.
-/
import Derived.Test.YtlmfpodajmmdeaaBKit
import Derived.Test.YtlmfpodajmmdeaaBTwP
import Derived.Test.YtlmfpodajmmdeaaBErr
import Derived.Test.YtlmfpodajmmdeaaBRnC
namespace Go.Proofs.Ytlmfpodajmmdeaa
open Go.RowKit

theorem orderE_ok {p stop : Int} (h : orderE p stop = 0) : p ≤ stop := by
  unfold orderE at h
  split at h
  · cases h
  · omega
theorem rowE_er {w w' : World} {l : List Int} {er : Int} {e : Ending} (h : RowE w l er e w') : ∃ (g : Hd) (n : Nat), e = .returned (.tuple #[.slice g.A n g.c, .int .i64 er]) ∧ Below w.heap.size w w' := by
  obtain ⟨g, rfl, _, hb⟩ := h
  exact ⟨g, _, rfl, hb⟩

set_option maxHeartbeats 8000000 in
set_option maxRecDepth 100000 in
theorem tw_long (s : ByteArray) (hs : s.size ≤ maxLen) (ps : List Bp) (A : Option Addr) (c : Nat) (hg : HdOk ⟨A, c⟩) (hl : ps.length ≤ maxLen) (b : Bs) (p sq stop : Int) (hsh : shortB s ps = false) (w : World) (hA : Lies w w.heap.size A (ps.flatMap pc)) : Calls Try.prog 6 #[.agg #[.string s, .slice A ps.length c], .agg #[.int .i64 b.brk, .int .i64 b.drag, .int .i64 b.drv], .agg #[.int .i64 p, .int .i64 sq, .int .i64 stop]] w fun e w' => e = .returned (.bool true) ∧ Below w.heap.size w w' := by
  have F0 := Lib.hid (Fr.b3 w 24 #[.string s, .slice A ps.length c] 26 #[.int .i64 b.brk, .int .i64 b.drag, .int .i64 b.drv] 51 #[.int .i64 p, .int .i64 sq, .int .i64 stop])
  have HA := Lib.hid hA
  have HG := Lib.hid hg
  clear hA hg
  have HSH := Lib.hid hsh
  clear hsh
  go_enter Try.func6, Try.ntmps6
  go_wp2_with fail
  refine (awake_any _).mono ?_
  rintro e w1 ⟨rfl, hb1⟩
  have G1 := Fr.call F0.out hb1
  obtain ⟨k0_0, k0_1, kf0, kg0⟩ := (G1.get 2 rfl).two
  have kz0 := (G1.get 2 rfl).lt
  obtain ⟨k1_0, k1_1, k1_2⟩ := (G1.get 1 rfl).three
  have kz1 := (G1.get 1 rfl).lt
  obtain ⟨k2_0, k2_1, k2_2⟩ := (G1.get 0 rfl).three
  have kz2 := (G1.get 0 rfl).lt
  have F1 : Hid (Fr w _ [(w.heap.size + 1 + 1, 51, #[.int .i64 p, .int .i64 sq, .int .i64 stop]), (w.heap.size + 1, 26, #[.int .i64 b.brk, .int .i64 b.drag, .int .i64 b.drv]), (w.heap.size, 24, #[.string s, .slice A ps.length c])]) := Lib.hid G1
  clear hb1 G1 F0
  go_wp2_with fail
  refine (Short_any s hs ps A c hl _).mono ?_
  rintro e w2 ⟨rfl, hb2⟩
  rw [HSH.out]
  clear k0_0 k0_1 kf0 kg0 kz0 k1_0 k1_1 k1_2 kz1 k2_0 k2_1 k2_2 kz2
  have G2 := Fr.call F1.out hb2
  obtain ⟨k0_0, k0_1, kf0, kg0⟩ := (G2.get 2 rfl).two
  have kz0 := (G2.get 2 rfl).lt
  obtain ⟨k1_0, k1_1, k1_2⟩ := (G2.get 1 rfl).three
  have kz1 := (G2.get 1 rfl).lt
  obtain ⟨k2_0, k2_1, k2_2⟩ := (G2.get 0 rfl).three
  have kz2 := (G2.get 0 rfl).lt
  have F2 : Hid (Fr w _ [(w.heap.size + 1 + 1, 51, #[.int .i64 p, .int .i64 sq, .int .i64 stop]), (w.heap.size + 1, 26, #[.int .i64 b.brk, .int .i64 b.drag, .int .i64 b.drv]), (w.heap.size, 24, #[.string s, .slice A ps.length c])]) := Lib.hid G2
  clear hb2 G2 F1
  go_wp2_with fail
  go_ret
  exact ⟨rfl, F2.out.bl⟩

set_option maxHeartbeats 8000000 in
set_option maxRecDepth 100000 in
theorem tw_bad0 (s : ByteArray) (hs : s.size ≤ maxLen) (ps : List Bp) (A : Option Addr) (c : Nat) (hg : HdOk ⟨A, c⟩) (hl : ps.length ≤ maxLen) (b : Bs) (p sq stop : Int) (hsh : shortB s ps = true) (er : Int) (hr : er ≠ 0) (hb0 : bothE s ps b = er) (w : World) (hA : Lies w w.heap.size A (ps.flatMap pc)) : Calls Try.prog 6 #[.agg #[.string s, .slice A ps.length c], .agg #[.int .i64 b.brk, .int .i64 b.drag, .int .i64 b.drv], .agg #[.int .i64 p, .int .i64 sq, .int .i64 stop]] w fun e w' => e = .returned (.bool true) ∧ Below w.heap.size w w' := by
  have F0 := Lib.hid (Fr.b3 w 24 #[.string s, .slice A ps.length c] 26 #[.int .i64 b.brk, .int .i64 b.drag, .int .i64 b.drv] 51 #[.int .i64 p, .int .i64 sq, .int .i64 stop])
  have HA := Lib.hid hA
  have HG := Lib.hid hg
  clear hA hg
  have HSH := Lib.hid hsh
  have hl14 : ps.length ≤ 14 := (short_iff.1 hsh).2
  clear hsh
  have HE := Lib.hid hb0
  have gn : (er != 0) = true := by simp [hr]
  clear hr hb0
  go_enter Try.func6, Try.ntmps6
  go_wp2_with fail
  refine (awake_any _).mono ?_
  rintro e w1 ⟨rfl, hb1⟩
  have G1 := Fr.call F0.out hb1
  obtain ⟨k0_0, k0_1, kf0, kg0⟩ := (G1.get 2 rfl).two
  have kz0 := (G1.get 2 rfl).lt
  obtain ⟨k1_0, k1_1, k1_2⟩ := (G1.get 1 rfl).three
  have kz1 := (G1.get 1 rfl).lt
  obtain ⟨k2_0, k2_1, k2_2⟩ := (G1.get 0 rfl).three
  have kz2 := (G1.get 0 rfl).lt
  have F1 : Hid (Fr w _ [(w.heap.size + 1 + 1, 51, #[.int .i64 p, .int .i64 sq, .int .i64 stop]), (w.heap.size + 1, 26, #[.int .i64 b.brk, .int .i64 b.drag, .int .i64 b.drv]), (w.heap.size, 24, #[.string s, .slice A ps.length c])]) := Lib.hid G1
  clear hb1 G1 F0
  go_wp2_with fail
  refine (Short_any s hs ps A c hl _).mono ?_
  rintro e w2 ⟨rfl, hb2⟩
  rw [HSH.out]
  clear k0_0 k0_1 kf0 kg0 kz0 k1_0 k1_1 k1_2 kz1 k2_0 k2_1 k2_2 kz2
  have G2 := Fr.call F1.out hb2
  obtain ⟨k0_0, k0_1, kf0, kg0⟩ := (G2.get 2 rfl).two
  have kz0 := (G2.get 2 rfl).lt
  obtain ⟨k1_0, k1_1, k1_2⟩ := (G2.get 1 rfl).three
  have kz1 := (G2.get 1 rfl).lt
  obtain ⟨k2_0, k2_1, k2_2⟩ := (G2.get 0 rfl).three
  have kz2 := (G2.get 0 rfl).lt
  have F2 : Hid (Fr w _ [(w.heap.size + 1 + 1, 51, #[.int .i64 p, .int .i64 sq, .int .i64 stop]), (w.heap.size + 1, 26, #[.int .i64 b.brk, .int .i64 b.drag, .int .i64 b.drv]), (w.heap.size, 24, #[.string s, .slice A ps.length c])]) := Lib.hid G2
  clear hb2 G2 F1
  go_wp2_with fail
  refine (BothErr_any s hs ps A c hl b _ (Fr.lies HA.out F2.out)).mono ?_
  rintro e w3 ⟨rfl, hb3⟩
  rw [HE.out]
  clear k0_0 k0_1 kf0 kg0 kz0 k1_0 k1_1 k1_2 kz1 k2_0 k2_1 k2_2 kz2
  have G3 := Fr.call F2.out hb3
  obtain ⟨k0_0, k0_1, kf0, kg0⟩ := (G3.get 2 rfl).two
  have kz0 := (G3.get 2 rfl).lt
  obtain ⟨k1_0, k1_1, k1_2⟩ := (G3.get 1 rfl).three
  have kz1 := (G3.get 1 rfl).lt
  obtain ⟨k2_0, k2_1, k2_2⟩ := (G3.get 0 rfl).three
  have kz2 := (G3.get 0 rfl).lt
  have F3 : Hid (Fr w _ [(w.heap.size + 1 + 1, 51, #[.int .i64 p, .int .i64 sq, .int .i64 stop]), (w.heap.size + 1, 26, #[.int .i64 b.brk, .int .i64 b.drag, .int .i64 b.drv]), (w.heap.size, 24, #[.string s, .slice A ps.length c])]) := Lib.hid G3
  clear hb3 G3 F2
  go_wp2_with fail
  go_ret
  exact ⟨rfl, F3.out.bl⟩

set_option maxHeartbeats 8000000 in
set_option maxRecDepth 100000 in
theorem tw_bad1 (s : ByteArray) (hs : s.size ≤ maxLen) (ps : List Bp) (A : Option Addr) (c : Nat) (hg : HdOk ⟨A, c⟩) (hl : ps.length ≤ maxLen) (b : Bs) (p sq stop : Int) (hsh : shortB s ps = true) (er : Int) (hr : er ≠ 0) (h0 : bothE s ps b = 0) (hb0 : stateE ps p sq = er) (w : World) (hA : Lies w w.heap.size A (ps.flatMap pc)) : Calls Try.prog 6 #[.agg #[.string s, .slice A ps.length c], .agg #[.int .i64 b.brk, .int .i64 b.drag, .int .i64 b.drv], .agg #[.int .i64 p, .int .i64 sq, .int .i64 stop]] w fun e w' => e = .returned (.bool true) ∧ Below w.heap.size w w' := by
  have F0 := Lib.hid (Fr.b3 w 24 #[.string s, .slice A ps.length c] 26 #[.int .i64 b.brk, .int .i64 b.drag, .int .i64 b.drv] 51 #[.int .i64 p, .int .i64 sq, .int .i64 stop])
  have HA := Lib.hid hA
  have HG := Lib.hid hg
  clear hA hg
  have HSH := Lib.hid hsh
  have hl14 : ps.length ≤ 14 := (short_iff.1 hsh).2
  clear hsh
  have HE := Lib.hid hb0
  have gn : (er != 0) = true := by simp [hr]
  clear hr hb0
  have H0 := Lib.hid h0
  clear h0
  go_enter Try.func6, Try.ntmps6
  go_wp2_with fail
  refine (awake_any _).mono ?_
  rintro e w1 ⟨rfl, hb1⟩
  have G1 := Fr.call F0.out hb1
  obtain ⟨k0_0, k0_1, kf0, kg0⟩ := (G1.get 2 rfl).two
  have kz0 := (G1.get 2 rfl).lt
  obtain ⟨k1_0, k1_1, k1_2⟩ := (G1.get 1 rfl).three
  have kz1 := (G1.get 1 rfl).lt
  obtain ⟨k2_0, k2_1, k2_2⟩ := (G1.get 0 rfl).three
  have kz2 := (G1.get 0 rfl).lt
  have F1 : Hid (Fr w _ [(w.heap.size + 1 + 1, 51, #[.int .i64 p, .int .i64 sq, .int .i64 stop]), (w.heap.size + 1, 26, #[.int .i64 b.brk, .int .i64 b.drag, .int .i64 b.drv]), (w.heap.size, 24, #[.string s, .slice A ps.length c])]) := Lib.hid G1
  clear hb1 G1 F0
  go_wp2_with fail
  refine (Short_any s hs ps A c hl _).mono ?_
  rintro e w2 ⟨rfl, hb2⟩
  rw [HSH.out]
  clear k0_0 k0_1 kf0 kg0 kz0 k1_0 k1_1 k1_2 kz1 k2_0 k2_1 k2_2 kz2
  have G2 := Fr.call F1.out hb2
  obtain ⟨k0_0, k0_1, kf0, kg0⟩ := (G2.get 2 rfl).two
  have kz0 := (G2.get 2 rfl).lt
  obtain ⟨k1_0, k1_1, k1_2⟩ := (G2.get 1 rfl).three
  have kz1 := (G2.get 1 rfl).lt
  obtain ⟨k2_0, k2_1, k2_2⟩ := (G2.get 0 rfl).three
  have kz2 := (G2.get 0 rfl).lt
  have F2 : Hid (Fr w _ [(w.heap.size + 1 + 1, 51, #[.int .i64 p, .int .i64 sq, .int .i64 stop]), (w.heap.size + 1, 26, #[.int .i64 b.brk, .int .i64 b.drag, .int .i64 b.drv]), (w.heap.size, 24, #[.string s, .slice A ps.length c])]) := Lib.hid G2
  clear hb2 G2 F1
  go_wp2_with fail
  refine (BothErr_any s hs ps A c hl b _ (Fr.lies HA.out F2.out)).mono ?_
  rintro e w3 ⟨rfl, hb3⟩
  rw [H0.out]
  clear k0_0 k0_1 kf0 kg0 kz0 k1_0 k1_1 k1_2 kz1 k2_0 k2_1 k2_2 kz2
  have G3 := Fr.call F2.out hb3
  obtain ⟨k0_0, k0_1, kf0, kg0⟩ := (G3.get 2 rfl).two
  have kz0 := (G3.get 2 rfl).lt
  obtain ⟨k1_0, k1_1, k1_2⟩ := (G3.get 1 rfl).three
  have kz1 := (G3.get 1 rfl).lt
  obtain ⟨k2_0, k2_1, k2_2⟩ := (G3.get 0 rfl).three
  have kz2 := (G3.get 0 rfl).lt
  have F3 : Hid (Fr w _ [(w.heap.size + 1 + 1, 51, #[.int .i64 p, .int .i64 sq, .int .i64 stop]), (w.heap.size + 1, 26, #[.int .i64 b.brk, .int .i64 b.drag, .int .i64 b.drv]), (w.heap.size, 24, #[.string s, .slice A ps.length c])]) := Lib.hid G3
  clear hb3 G3 F2
  go_wp2_with fail
  refine (StateErr_any s ps A c (by omega) p sq _).mono ?_
  rintro e w4 ⟨rfl, hb4⟩
  rw [HE.out]
  clear k0_0 k0_1 kf0 kg0 kz0 k1_0 k1_1 k1_2 kz1 k2_0 k2_1 k2_2 kz2
  have G4 := Fr.call F3.out hb4
  obtain ⟨k0_0, k0_1, kf0, kg0⟩ := (G4.get 2 rfl).two
  have kz0 := (G4.get 2 rfl).lt
  obtain ⟨k1_0, k1_1, k1_2⟩ := (G4.get 1 rfl).three
  have kz1 := (G4.get 1 rfl).lt
  obtain ⟨k2_0, k2_1, k2_2⟩ := (G4.get 0 rfl).three
  have kz2 := (G4.get 0 rfl).lt
  have F4 : Hid (Fr w _ [(w.heap.size + 1 + 1, 51, #[.int .i64 p, .int .i64 sq, .int .i64 stop]), (w.heap.size + 1, 26, #[.int .i64 b.brk, .int .i64 b.drag, .int .i64 b.drv]), (w.heap.size, 24, #[.string s, .slice A ps.length c])]) := Lib.hid G4
  clear hb4 G4 F3
  go_wp2_with fail
  go_ret
  exact ⟨rfl, F4.out.bl⟩

set_option maxHeartbeats 8000000 in
set_option maxRecDepth 100000 in
theorem tw_bad2 (s : ByteArray) (hs : s.size ≤ maxLen) (ps : List Bp) (A : Option Addr) (c : Nat) (hg : HdOk ⟨A, c⟩) (hl : ps.length ≤ maxLen) (b : Bs) (p sq stop : Int) (hsh : shortB s ps = true) (er : Int) (hr : er ≠ 0) (h0 : bothE s ps b = 0) (h1 : stateE ps p sq = 0) (hb0 : stopE ps stop = er) (w : World) (hA : Lies w w.heap.size A (ps.flatMap pc)) : Calls Try.prog 6 #[.agg #[.string s, .slice A ps.length c], .agg #[.int .i64 b.brk, .int .i64 b.drag, .int .i64 b.drv], .agg #[.int .i64 p, .int .i64 sq, .int .i64 stop]] w fun e w' => e = .returned (.bool true) ∧ Below w.heap.size w w' := by
  have F0 := Lib.hid (Fr.b3 w 24 #[.string s, .slice A ps.length c] 26 #[.int .i64 b.brk, .int .i64 b.drag, .int .i64 b.drv] 51 #[.int .i64 p, .int .i64 sq, .int .i64 stop])
  have HA := Lib.hid hA
  have HG := Lib.hid hg
  clear hA hg
  have HSH := Lib.hid hsh
  have hl14 : ps.length ≤ 14 := (short_iff.1 hsh).2
  clear hsh
  have HE := Lib.hid hb0
  have gn : (er != 0) = true := by simp [hr]
  clear hr hb0
  have H0 := Lib.hid h0
  have H1 := Lib.hid h1
  clear h0 h1
  go_enter Try.func6, Try.ntmps6
  go_wp2_with fail
  refine (awake_any _).mono ?_
  rintro e w1 ⟨rfl, hb1⟩
  have G1 := Fr.call F0.out hb1
  obtain ⟨k0_0, k0_1, kf0, kg0⟩ := (G1.get 2 rfl).two
  have kz0 := (G1.get 2 rfl).lt
  obtain ⟨k1_0, k1_1, k1_2⟩ := (G1.get 1 rfl).three
  have kz1 := (G1.get 1 rfl).lt
  obtain ⟨k2_0, k2_1, k2_2⟩ := (G1.get 0 rfl).three
  have kz2 := (G1.get 0 rfl).lt
  have F1 : Hid (Fr w _ [(w.heap.size + 1 + 1, 51, #[.int .i64 p, .int .i64 sq, .int .i64 stop]), (w.heap.size + 1, 26, #[.int .i64 b.brk, .int .i64 b.drag, .int .i64 b.drv]), (w.heap.size, 24, #[.string s, .slice A ps.length c])]) := Lib.hid G1
  clear hb1 G1 F0
  go_wp2_with fail
  refine (Short_any s hs ps A c hl _).mono ?_
  rintro e w2 ⟨rfl, hb2⟩
  rw [HSH.out]
  clear k0_0 k0_1 kf0 kg0 kz0 k1_0 k1_1 k1_2 kz1 k2_0 k2_1 k2_2 kz2
  have G2 := Fr.call F1.out hb2
  obtain ⟨k0_0, k0_1, kf0, kg0⟩ := (G2.get 2 rfl).two
  have kz0 := (G2.get 2 rfl).lt
  obtain ⟨k1_0, k1_1, k1_2⟩ := (G2.get 1 rfl).three
  have kz1 := (G2.get 1 rfl).lt
  obtain ⟨k2_0, k2_1, k2_2⟩ := (G2.get 0 rfl).three
  have kz2 := (G2.get 0 rfl).lt
  have F2 : Hid (Fr w _ [(w.heap.size + 1 + 1, 51, #[.int .i64 p, .int .i64 sq, .int .i64 stop]), (w.heap.size + 1, 26, #[.int .i64 b.brk, .int .i64 b.drag, .int .i64 b.drv]), (w.heap.size, 24, #[.string s, .slice A ps.length c])]) := Lib.hid G2
  clear hb2 G2 F1
  go_wp2_with fail
  refine (BothErr_any s hs ps A c hl b _ (Fr.lies HA.out F2.out)).mono ?_
  rintro e w3 ⟨rfl, hb3⟩
  rw [H0.out]
  clear k0_0 k0_1 kf0 kg0 kz0 k1_0 k1_1 k1_2 kz1 k2_0 k2_1 k2_2 kz2
  have G3 := Fr.call F2.out hb3
  obtain ⟨k0_0, k0_1, kf0, kg0⟩ := (G3.get 2 rfl).two
  have kz0 := (G3.get 2 rfl).lt
  obtain ⟨k1_0, k1_1, k1_2⟩ := (G3.get 1 rfl).three
  have kz1 := (G3.get 1 rfl).lt
  obtain ⟨k2_0, k2_1, k2_2⟩ := (G3.get 0 rfl).three
  have kz2 := (G3.get 0 rfl).lt
  have F3 : Hid (Fr w _ [(w.heap.size + 1 + 1, 51, #[.int .i64 p, .int .i64 sq, .int .i64 stop]), (w.heap.size + 1, 26, #[.int .i64 b.brk, .int .i64 b.drag, .int .i64 b.drv]), (w.heap.size, 24, #[.string s, .slice A ps.length c])]) := Lib.hid G3
  clear hb3 G3 F2
  go_wp2_with fail
  refine (StateErr_any s ps A c (by omega) p sq _).mono ?_
  rintro e w4 ⟨rfl, hb4⟩
  rw [H1.out]
  clear k0_0 k0_1 kf0 kg0 kz0 k1_0 k1_1 k1_2 kz1 k2_0 k2_1 k2_2 kz2
  have G4 := Fr.call F3.out hb4
  obtain ⟨k0_0, k0_1, kf0, kg0⟩ := (G4.get 2 rfl).two
  have kz0 := (G4.get 2 rfl).lt
  obtain ⟨k1_0, k1_1, k1_2⟩ := (G4.get 1 rfl).three
  have kz1 := (G4.get 1 rfl).lt
  obtain ⟨k2_0, k2_1, k2_2⟩ := (G4.get 0 rfl).three
  have kz2 := (G4.get 0 rfl).lt
  have F4 : Hid (Fr w _ [(w.heap.size + 1 + 1, 51, #[.int .i64 p, .int .i64 sq, .int .i64 stop]), (w.heap.size + 1, 26, #[.int .i64 b.brk, .int .i64 b.drag, .int .i64 b.drv]), (w.heap.size, 24, #[.string s, .slice A ps.length c])]) := Lib.hid G4
  clear hb4 G4 F3
  go_wp2_with fail
  refine (StopErr_any s ps A c (by omega) stop _ (Fr.lies HA.out F4.out)).mono ?_
  rintro e w5 ⟨rfl, hb5⟩
  rw [HE.out]
  clear k0_0 k0_1 kf0 kg0 kz0 k1_0 k1_1 k1_2 kz1 k2_0 k2_1 k2_2 kz2
  have G5 := Fr.call F4.out hb5
  obtain ⟨k0_0, k0_1, kf0, kg0⟩ := (G5.get 2 rfl).two
  have kz0 := (G5.get 2 rfl).lt
  obtain ⟨k1_0, k1_1, k1_2⟩ := (G5.get 1 rfl).three
  have kz1 := (G5.get 1 rfl).lt
  obtain ⟨k2_0, k2_1, k2_2⟩ := (G5.get 0 rfl).three
  have kz2 := (G5.get 0 rfl).lt
  have F5 : Hid (Fr w _ [(w.heap.size + 1 + 1, 51, #[.int .i64 p, .int .i64 sq, .int .i64 stop]), (w.heap.size + 1, 26, #[.int .i64 b.brk, .int .i64 b.drag, .int .i64 b.drv]), (w.heap.size, 24, #[.string s, .slice A ps.length c])]) := Lib.hid G5
  clear hb5 G5 F4
  go_wp2_with fail
  go_ret
  exact ⟨rfl, F5.out.bl⟩

set_option maxHeartbeats 8000000 in
set_option maxRecDepth 100000 in
theorem tw_bad3 (s : ByteArray) (hs : s.size ≤ maxLen) (ps : List Bp) (A : Option Addr) (c : Nat) (hg : HdOk ⟨A, c⟩) (hl : ps.length ≤ maxLen) (b : Bs) (p sq stop : Int) (hsh : shortB s ps = true) (h0 : bothE s ps b = 0) (h1 : stateE ps p sq = 0) (h2 : stopE ps stop = 0) (hb0 : stop < p) (w : World) (hA : Lies w w.heap.size A (ps.flatMap pc)) : Calls Try.prog 6 #[.agg #[.string s, .slice A ps.length c], .agg #[.int .i64 b.brk, .int .i64 b.drag, .int .i64 b.drv], .agg #[.int .i64 p, .int .i64 sq, .int .i64 stop]] w fun e w' => e = .returned (.bool true) ∧ Below w.heap.size w w' := by
  have F0 := Lib.hid (Fr.b3 w 24 #[.string s, .slice A ps.length c] 26 #[.int .i64 b.brk, .int .i64 b.drag, .int .i64 b.drv] 51 #[.int .i64 p, .int .i64 sq, .int .i64 stop])
  have HA := Lib.hid hA
  have HG := Lib.hid hg
  clear hA hg
  have HSH := Lib.hid hsh
  have hl14 : ps.length ≤ 14 := (short_iff.1 hsh).2
  clear hsh
  have hgt : stop < p := hb0
  have H0 := Lib.hid h0
  have H1 := Lib.hid h1
  have H2 := Lib.hid h2
  clear h0 h1 h2
  go_enter Try.func6, Try.ntmps6
  go_wp2_with fail
  refine (awake_any _).mono ?_
  rintro e w1 ⟨rfl, hb1⟩
  have G1 := Fr.call F0.out hb1
  obtain ⟨k0_0, k0_1, kf0, kg0⟩ := (G1.get 2 rfl).two
  have kz0 := (G1.get 2 rfl).lt
  obtain ⟨k1_0, k1_1, k1_2⟩ := (G1.get 1 rfl).three
  have kz1 := (G1.get 1 rfl).lt
  obtain ⟨k2_0, k2_1, k2_2⟩ := (G1.get 0 rfl).three
  have kz2 := (G1.get 0 rfl).lt
  have F1 : Hid (Fr w _ [(w.heap.size + 1 + 1, 51, #[.int .i64 p, .int .i64 sq, .int .i64 stop]), (w.heap.size + 1, 26, #[.int .i64 b.brk, .int .i64 b.drag, .int .i64 b.drv]), (w.heap.size, 24, #[.string s, .slice A ps.length c])]) := Lib.hid G1
  clear hb1 G1 F0
  go_wp2_with fail
  refine (Short_any s hs ps A c hl _).mono ?_
  rintro e w2 ⟨rfl, hb2⟩
  rw [HSH.out]
  clear k0_0 k0_1 kf0 kg0 kz0 k1_0 k1_1 k1_2 kz1 k2_0 k2_1 k2_2 kz2
  have G2 := Fr.call F1.out hb2
  obtain ⟨k0_0, k0_1, kf0, kg0⟩ := (G2.get 2 rfl).two
  have kz0 := (G2.get 2 rfl).lt
  obtain ⟨k1_0, k1_1, k1_2⟩ := (G2.get 1 rfl).three
  have kz1 := (G2.get 1 rfl).lt
  obtain ⟨k2_0, k2_1, k2_2⟩ := (G2.get 0 rfl).three
  have kz2 := (G2.get 0 rfl).lt
  have F2 : Hid (Fr w _ [(w.heap.size + 1 + 1, 51, #[.int .i64 p, .int .i64 sq, .int .i64 stop]), (w.heap.size + 1, 26, #[.int .i64 b.brk, .int .i64 b.drag, .int .i64 b.drv]), (w.heap.size, 24, #[.string s, .slice A ps.length c])]) := Lib.hid G2
  clear hb2 G2 F1
  go_wp2_with fail
  refine (BothErr_any s hs ps A c hl b _ (Fr.lies HA.out F2.out)).mono ?_
  rintro e w3 ⟨rfl, hb3⟩
  rw [H0.out]
  clear k0_0 k0_1 kf0 kg0 kz0 k1_0 k1_1 k1_2 kz1 k2_0 k2_1 k2_2 kz2
  have G3 := Fr.call F2.out hb3
  obtain ⟨k0_0, k0_1, kf0, kg0⟩ := (G3.get 2 rfl).two
  have kz0 := (G3.get 2 rfl).lt
  obtain ⟨k1_0, k1_1, k1_2⟩ := (G3.get 1 rfl).three
  have kz1 := (G3.get 1 rfl).lt
  obtain ⟨k2_0, k2_1, k2_2⟩ := (G3.get 0 rfl).three
  have kz2 := (G3.get 0 rfl).lt
  have F3 : Hid (Fr w _ [(w.heap.size + 1 + 1, 51, #[.int .i64 p, .int .i64 sq, .int .i64 stop]), (w.heap.size + 1, 26, #[.int .i64 b.brk, .int .i64 b.drag, .int .i64 b.drv]), (w.heap.size, 24, #[.string s, .slice A ps.length c])]) := Lib.hid G3
  clear hb3 G3 F2
  go_wp2_with fail
  refine (StateErr_any s ps A c (by omega) p sq _).mono ?_
  rintro e w4 ⟨rfl, hb4⟩
  rw [H1.out]
  clear k0_0 k0_1 kf0 kg0 kz0 k1_0 k1_1 k1_2 kz1 k2_0 k2_1 k2_2 kz2
  have G4 := Fr.call F3.out hb4
  obtain ⟨k0_0, k0_1, kf0, kg0⟩ := (G4.get 2 rfl).two
  have kz0 := (G4.get 2 rfl).lt
  obtain ⟨k1_0, k1_1, k1_2⟩ := (G4.get 1 rfl).three
  have kz1 := (G4.get 1 rfl).lt
  obtain ⟨k2_0, k2_1, k2_2⟩ := (G4.get 0 rfl).three
  have kz2 := (G4.get 0 rfl).lt
  have F4 : Hid (Fr w _ [(w.heap.size + 1 + 1, 51, #[.int .i64 p, .int .i64 sq, .int .i64 stop]), (w.heap.size + 1, 26, #[.int .i64 b.brk, .int .i64 b.drag, .int .i64 b.drv]), (w.heap.size, 24, #[.string s, .slice A ps.length c])]) := Lib.hid G4
  clear hb4 G4 F3
  go_wp2_with fail
  refine (StopErr_any s ps A c (by omega) stop _ (Fr.lies HA.out F4.out)).mono ?_
  rintro e w5 ⟨rfl, hb5⟩
  rw [H2.out]
  clear k0_0 k0_1 kf0 kg0 kz0 k1_0 k1_1 k1_2 kz1 k2_0 k2_1 k2_2 kz2
  have G5 := Fr.call F4.out hb5
  obtain ⟨k0_0, k0_1, kf0, kg0⟩ := (G5.get 2 rfl).two
  have kz0 := (G5.get 2 rfl).lt
  obtain ⟨k1_0, k1_1, k1_2⟩ := (G5.get 1 rfl).three
  have kz1 := (G5.get 1 rfl).lt
  obtain ⟨k2_0, k2_1, k2_2⟩ := (G5.get 0 rfl).three
  have kz2 := (G5.get 0 rfl).lt
  have F5 : Hid (Fr w _ [(w.heap.size + 1 + 1, 51, #[.int .i64 p, .int .i64 sq, .int .i64 stop]), (w.heap.size + 1, 26, #[.int .i64 b.brk, .int .i64 b.drag, .int .i64 b.drv]), (w.heap.size, 24, #[.string s, .slice A ps.length c])]) := Lib.hid G5
  clear hb5 G5 F4
  go_wp2_with fail
  go_ret
  exact ⟨rfl, F5.out.bl⟩

set_option maxHeartbeats 8000000 in
set_option maxRecDepth 100000 in
theorem tw_ok (s : ByteArray) (hs : s.size ≤ maxLen) (ps : List Bp) (A : Option Addr) (c : Nat) (hg : HdOk ⟨A, c⟩) (hl : ps.length ≤ maxLen) (b : Bs) (p k : Nat) (sq : Int) (hsh : shortB s ps = true) (h0 : bothE s ps b = 0) (h1 : stateE ps (p : Int) sq = 0) (h2 : stopE ps (k : Int) = 0) (hpk : p ≤ k) (w : World) (hA : Lies w w.heap.size A (ps.flatMap pc)) : Calls Try.prog 6 #[.agg #[.string s, .slice A ps.length c], .agg #[.int .i64 b.brk, .int .i64 b.drag, .int .i64 b.drv], .agg #[.int .i64 (p : Int), .int .i64 sq, .int .i64 (k : Int)]] w fun e w' => e = .returned (.bool true) ∧ Below w.heap.size w w' := by
  obtain ⟨hok, hb⟩ := bothE_zero h0
  obtain ⟨k2, hk2, hk, hlv⟩ := stopE_ok h2
  obtain rfl : k = k2 := by omega
  clear hk2
  obtain ⟨p2, hp2, _, hq0, hq1⟩ := stateE_ok h1
  clear hp2
  have hq : 0 ≤ sq ∧ sq ≤ 20000000000 := ⟨hq0, hq1⟩
  have HOK := Lib.hid hok
  have HB := Lib.hid hb
  obtain ⟨a, rfl⟩ := ps_some hA hok.n0
  have hsb : sE b = 0 := by unfold bothE at h0; rw [if_neg (by rw [trE_ok hok]; simp)] at h0; exact h0
  have HEND := Lib.hid (btwF_end (ps := ps) (b := b) (sq := sq) hpk hok.each hb (by have := hok.n12; omega))
  have HTHREE := Lib.hid (runE_three ps b k p sq)
  obtain ⟨er, her⟩ : ∃ er, runE ps b k p sq = er := ⟨_, rfl⟩
  rw [her] at HEND HTHREE
  have HCU : Hid (∀ (A' : Option Addr) (c' : Nat) (W : World), Lies W W.heap.size A' (ps.flatMap pc) → Calls Try.prog 19 #[.agg #[.string s, .slice A' ps.length c'], .agg #[.int .i64 b.brk, .int .i64 b.drag, .int .i64 b.drv], .int .i64 (k : Int)] W fun e w' => ∃ g : Hd, e = .returned (.tuple #[.slice g.A (k + 2 : Nat) g.c, .int .i64 0]) ∧ Lies w' w'.heap.size g.A (ic (listF (k + 2) (crvV ps b.brk k))) ∧ Below W.heap.size W w') := Lib.hid (fun A' c' W h => by obtain ⟨a', rfl⟩ := ps_some h hok.n0; exact (CurveOf_ok s hs ps a' c' (by have := hok.n12; omega) b (k : Int) hok hb hsb h2 W h).mono fun _ _ h => rowE_ok h)
  have HLS : Hid (∀ (A' : Option Addr) (c' : Nat) (W : World), Lies W W.heap.size A' (ps.flatMap pc) → Calls Try.prog 20 #[.agg #[.string s, .slice A' ps.length c'], .agg #[.int .i64 b.brk, .int .i64 b.drag, .int .i64 b.drv], .int .i64 (k : Int)] W fun e w' => ∃ g : Hd, e = .returned (.tuple #[.slice g.A (k + 1 : Nat) g.c, .int .i64 0]) ∧ Lies w' w'.heap.size g.A (ic (listF (k + 1) (lstV ps b.drag k))) ∧ Below W.heap.size W w') := Lib.hid (fun A' c' W h => by obtain ⟨a', rfl⟩ := ps_some h hok.n0; exact (LeastOf_ok s hs ps a' c' (by have := hok.n12; omega) b (k : Int) hok hb hsb h2 W h).mono fun _ _ h => rowE_ok h)
  have HRE : Hid (∀ (A' : Option Addr) (c' : Nat) (W : World), Lies W W.heap.size A' (ps.flatMap pc) → Calls Try.prog 25 #[.agg #[.string s, .slice A' ps.length c'], .agg #[.int .i64 b.brk, .int .i64 b.drag, .int .i64 b.drv], .agg #[.int .i64 (p : Int), .int .i64 sq], .int .i64 (k : Int)] W fun e w' => e = .returned (.tuple #[.bool (decide (er = 0)), .int .i64 0]) ∧ Below W.heap.size W w') := Lib.hid (fun A' c' W h => by obtain ⟨a', rfl⟩ := ps_some h hok.n0; have := Reaches_ok s hs ps a' c' (by have := hok.n12; omega) b hok hb hsb k p hk hlv hpk sq hq W h; rw [her] at this; exact this)
  have HRT : Hid (∀ (A' : Option Addr) (c' : Nat) (W : World), Lies W W.heap.size A' (ps.flatMap pc) → Calls Try.prog 26 #[.agg #[.string s, .slice A' ps.length c'], .agg #[.int .i64 b.brk, .int .i64 b.drag, .int .i64 b.drv], .agg #[.int .i64 (p : Int), .int .i64 sq], .int .i64 (k : Int)] W fun e w' => ∃ (g : Hd) (n : Nat), e = .returned (.tuple #[.slice g.A n g.c, .int .i64 er]) ∧ Below W.heap.size W w') := Lib.hid (fun A' c' W h => by obtain ⟨a', rfl⟩ := ps_some h hok.n0; have := RunTo_ok s hs ps a' c' (by have := hok.n12; omega) b hok hb hsb k p hk hlv hpk sq hq W h; rw [her] at this; exact this.mono fun _ _ h => rowE_er h)
  have F0 := Lib.hid (Fr.b3 w 24 #[.string s, .slice (some a) ps.length c] 26 #[.int .i64 b.brk, .int .i64 b.drag, .int .i64 b.drv] 51 #[.int .i64 (p : Int), .int .i64 sq, .int .i64 (k : Int)])
  have HA := Lib.hid hA
  have HG := Lib.hid hg
  clear hA hg
  have HSH := Lib.hid hsh
  have hl14 : ps.length ≤ 14 := (short_iff.1 hsh).2
  clear hsh
  have H0 := Lib.hid h0
  have H1 := Lib.hid h1
  have H2 := Lib.hid h2
  have hpk2 : decide ((k : Int) < (p : Int)) = false := decide_eq_false (by omega)
  have hpk3 : (p : Int) ≤ (k : Int) := by omega
  have hpk4 : decide (k < p) = false := decide_eq_false (by omega)
  have h12 := hok.n12
  have hk12 : (k : Int) < 12 := by omega
  clear hok hb hsb h0 h1 h2 hlv hk hq her
  go_enter Try.func6, Try.ntmps6
  go_wp2_with fail
  refine (awake_any _).mono ?_
  rintro e w1 ⟨rfl, hb1⟩
  have G1 := Fr.call F0.out hb1
  obtain ⟨k0_0, k0_1, kf0, kg0⟩ := (G1.get 2 rfl).two
  have kz0 := (G1.get 2 rfl).lt
  obtain ⟨k1_0, k1_1, k1_2⟩ := (G1.get 1 rfl).three
  have kz1 := (G1.get 1 rfl).lt
  obtain ⟨k2_0, k2_1, k2_2⟩ := (G1.get 0 rfl).three
  have kz2 := (G1.get 0 rfl).lt
  have F1 : Hid (Fr w _ [(w.heap.size + 1 + 1, 51, #[.int .i64 (p : Int), .int .i64 sq, .int .i64 (k : Int)]), (w.heap.size + 1, 26, #[.int .i64 b.brk, .int .i64 b.drag, .int .i64 b.drv]), (w.heap.size, 24, #[.string s, .slice (some a) ps.length c])]) := Lib.hid G1
  clear hb1 G1 F0
  go_wp2_with fail
  refine (Short_any s hs ps (some a) c hl _).mono ?_
  rintro e w2 ⟨rfl, hb2⟩
  rw [HSH.out]
  clear k0_0 k0_1 kf0 kg0 kz0 k1_0 k1_1 k1_2 kz1 k2_0 k2_1 k2_2 kz2
  have G2 := Fr.call F1.out hb2
  obtain ⟨k0_0, k0_1, kf0, kg0⟩ := (G2.get 2 rfl).two
  have kz0 := (G2.get 2 rfl).lt
  obtain ⟨k1_0, k1_1, k1_2⟩ := (G2.get 1 rfl).three
  have kz1 := (G2.get 1 rfl).lt
  obtain ⟨k2_0, k2_1, k2_2⟩ := (G2.get 0 rfl).three
  have kz2 := (G2.get 0 rfl).lt
  have F2 : Hid (Fr w _ [(w.heap.size + 1 + 1, 51, #[.int .i64 (p : Int), .int .i64 sq, .int .i64 (k : Int)]), (w.heap.size + 1, 26, #[.int .i64 b.brk, .int .i64 b.drag, .int .i64 b.drv]), (w.heap.size, 24, #[.string s, .slice (some a) ps.length c])]) := Lib.hid G2
  clear hb2 G2 F1
  go_wp2_with fail
  refine (BothErr_any s hs ps (some a) c hl b _ (Fr.lies HA.out F2.out)).mono ?_
  rintro e w3 ⟨rfl, hb3⟩
  rw [H0.out]
  clear k0_0 k0_1 kf0 kg0 kz0 k1_0 k1_1 k1_2 kz1 k2_0 k2_1 k2_2 kz2
  have G3 := Fr.call F2.out hb3
  obtain ⟨k0_0, k0_1, kf0, kg0⟩ := (G3.get 2 rfl).two
  have kz0 := (G3.get 2 rfl).lt
  obtain ⟨k1_0, k1_1, k1_2⟩ := (G3.get 1 rfl).three
  have kz1 := (G3.get 1 rfl).lt
  obtain ⟨k2_0, k2_1, k2_2⟩ := (G3.get 0 rfl).three
  have kz2 := (G3.get 0 rfl).lt
  have F3 : Hid (Fr w _ [(w.heap.size + 1 + 1, 51, #[.int .i64 (p : Int), .int .i64 sq, .int .i64 (k : Int)]), (w.heap.size + 1, 26, #[.int .i64 b.brk, .int .i64 b.drag, .int .i64 b.drv]), (w.heap.size, 24, #[.string s, .slice (some a) ps.length c])]) := Lib.hid G3
  clear hb3 G3 F2
  go_wp2_with fail
  refine (StateErr_any s ps (some a) c (by omega) (p : Int) sq _).mono ?_
  rintro e w4 ⟨rfl, hb4⟩
  rw [H1.out]
  clear k0_0 k0_1 kf0 kg0 kz0 k1_0 k1_1 k1_2 kz1 k2_0 k2_1 k2_2 kz2
  have G4 := Fr.call F3.out hb4
  obtain ⟨k0_0, k0_1, kf0, kg0⟩ := (G4.get 2 rfl).two
  have kz0 := (G4.get 2 rfl).lt
  obtain ⟨k1_0, k1_1, k1_2⟩ := (G4.get 1 rfl).three
  have kz1 := (G4.get 1 rfl).lt
  obtain ⟨k2_0, k2_1, k2_2⟩ := (G4.get 0 rfl).three
  have kz2 := (G4.get 0 rfl).lt
  have F4 : Hid (Fr w _ [(w.heap.size + 1 + 1, 51, #[.int .i64 (p : Int), .int .i64 sq, .int .i64 (k : Int)]), (w.heap.size + 1, 26, #[.int .i64 b.brk, .int .i64 b.drag, .int .i64 b.drv]), (w.heap.size, 24, #[.string s, .slice (some a) ps.length c])]) := Lib.hid G4
  clear hb4 G4 F3
  go_wp2_with fail
  refine (StopErr_any s ps (some a) c (by omega) (k : Int) _ (Fr.lies HA.out F4.out)).mono ?_
  rintro e w5 ⟨rfl, hb5⟩
  rw [H2.out]
  clear k0_0 k0_1 kf0 kg0 kz0 k1_0 k1_1 k1_2 kz1 k2_0 k2_1 k2_2 kz2
  have G5 := Fr.call F4.out hb5
  obtain ⟨k0_0, k0_1, kf0, kg0⟩ := (G5.get 2 rfl).two
  have kz0 := (G5.get 2 rfl).lt
  obtain ⟨k1_0, k1_1, k1_2⟩ := (G5.get 1 rfl).three
  have kz1 := (G5.get 1 rfl).lt
  obtain ⟨k2_0, k2_1, k2_2⟩ := (G5.get 0 rfl).three
  have kz2 := (G5.get 0 rfl).lt
  have F5 : Hid (Fr w _ [(w.heap.size + 1 + 1, 51, #[.int .i64 (p : Int), .int .i64 sq, .int .i64 (k : Int)]), (w.heap.size + 1, 26, #[.int .i64 b.brk, .int .i64 b.drag, .int .i64 b.drv]), (w.heap.size, 24, #[.string s, .slice (some a) ps.length c])]) := Lib.hid G5
  clear hb5 G5 F4
  go_upto_region 5 with fail
  clear k0_0 k0_1 kf0 kg0 kz0 k1_0 k1_1 k1_2 kz1 k2_0 k2_1 k2_2 kz2
  go_cut [7, 8] from 50 to 58 (fun r e W => (∃ g : Hd, r = .slice g.A (k + 2 : Nat) g.c ∧ e = .int .i64 0 ∧ Lies W W.heap.size g.A (ic (listF (k + 2) (crvV ps b.brk k)))) ∧ Fr w5 W [])
  case first =>
    have HALL : Hid (∀ W, Fr w5 W [] → Fr w5 W [] ∧ W.cell? ⟨w.heap.size, 0, none⟩ = some (.string s) ∧ W.cell? ⟨w.heap.size, 1, none⟩ = some (.slice (some a) ps.length c) ∧ W.cell? ⟨w.heap.size + 1, 0, none⟩ = some (.int .i64 b.brk) ∧ W.cell? ⟨w.heap.size + 1, 1, none⟩ = some (.int .i64 b.drag) ∧ W.cell? ⟨w.heap.size + 1, 2, none⟩ = some (.int .i64 b.drv) ∧ W.cell? ⟨w.heap.size + 1 + 1, 0, none⟩ = some (.int .i64 (p : Int)) ∧ W.cell? ⟨w.heap.size + 1 + 1, 1, none⟩ = some (.int .i64 sq) ∧ W.cell? ⟨w.heap.size + 1 + 1, 2, none⟩ = some (.int .i64 (k : Int))) := Lib.hid (fun W hW => ⟨hW, ((F5.out.get 2 rfl).call hW.bl).cell 0, ((F5.out.get 2 rfl).call hW.bl).cell 1, ((F5.out.get 1 rfl).call hW.bl).cell 0, ((F5.out.get 1 rfl).call hW.bl).cell 1, ((F5.out.get 1 rfl).call hW.bl).cell 2, ((F5.out.get 0 rfl).call hW.bl).cell 0, ((F5.out.get 0 rfl).call hW.bl).cell 1, ((F5.out.get 0 rfl).call hW.bl).cell 2⟩)
    have HAC := Lib.hid (Fr.lies HA.out F5.out)
    have F10 : Fr w5 _ [] := Fr.nil w5
    go_region_held3 (fun W => Fr w5 W [] ∧ W.cell? ⟨w.heap.size, 0, none⟩ = some (.string s) ∧ W.cell? ⟨w.heap.size, 1, none⟩ = some (.slice (some a) ps.length c) ∧ W.cell? ⟨w.heap.size + 1, 0, none⟩ = some (.int .i64 b.brk) ∧ W.cell? ⟨w.heap.size + 1, 1, none⟩ = some (.int .i64 b.drag) ∧ W.cell? ⟨w.heap.size + 1, 2, none⟩ = some (.int .i64 b.drv) ∧ W.cell? ⟨w.heap.size + 1 + 1, 0, none⟩ = some (.int .i64 (p : Int)) ∧ W.cell? ⟨w.heap.size + 1 + 1, 1, none⟩ = some (.int .i64 sq) ∧ W.cell? ⟨w.heap.size + 1 + 1, 2, none⟩ = some (.int .i64 (k : Int)))
        ((go_split_ands; refine HALL.out _ ?_; (first | assumption | (repeat (first | assumption | refine Fr.new ?_ _ | refine Fr.drew ?_ | (refine Fr.set ?_ (by first | exact Nat.le_refl _ | omega | (simp; done) | (simp; omega)) (by first | (simp; done) | (simp; omega)) _))); done)))
        ((first
          | (go_at_call 10; go_split_ands; (with_reducible refine (Copy_any s ps ⟨(some a), c⟩ (by omega) HG.out _ (Fr.lies HAC.out (by assumption))).mono ?_); rintro e w1 ⟨g2, rfl, hl2, hk2, hb1⟩; have HL2 := Lib.hid hl2; have F4 := Fr.call (by assumption) hb1; clear hb1 hl2 hk2)
          | (go_at_call 19; go_split_ands; (with_reducible refine (HCU.out _ _ _ HL2.out).mono ?_); rintro e w1 ⟨g3, rfl, hl3, hb1⟩; have HL3 := Lib.hid hl3; have F5 := Fr.call (by assumption) hb1; clear hb1 hl3)
          | fail "arm"))
    all_goals
      go_split_ands
      go_wp2_with fail
      go_meet
      exact ⟨⟨g3, rfl, rfl, HL3.out⟩, by assumption⟩
  case rest =>
    obtain ⟨wx1, rfl⟩ : ∃ W, W = wc := ⟨_, rfl⟩
    obtain ⟨⟨gx5, rfl, rfl, hy5⟩, hx⟩ := hcut
    have FC1 := Lib.hid (F5.out.call hx.bl)
    clear hx F5
    obtain ⟨k0_0, k0_1, kf0, kg0⟩ := (FC1.out.get 2 rfl).two
    have kz0 := (FC1.out.get 2 rfl).lt
    obtain ⟨k1_0, k1_1, k1_2⟩ := (FC1.out.get 1 rfl).three
    have kz1 := (FC1.out.get 1 rfl).lt
    obtain ⟨k2_0, k2_1, k2_2⟩ := (FC1.out.get 0 rfl).three
    have kz2 := (FC1.out.get 0 rfl).lt
    have Y5 := Lib.hid hy5
    clear hy5
    go_upto_region 6 with fail
    clear k0_0 k0_1 kf0 kg0 kz0 k1_0 k1_1 k1_2 kz1 k2_0 k2_1 k2_2 kz2
    go_cut [9, 10] from 59 to 67 (fun r e W => (∃ g : Hd, r = .slice g.A (k + 1 : Nat) g.c ∧ e = .int .i64 0 ∧ Lies W W.heap.size g.A (ic (listF (k + 1) (lstV ps b.drag k)))) ∧ Fr wx1 W [])
    case first =>
      have HALL : Hid (∀ W, Fr wx1 W [] → Fr wx1 W [] ∧ W.cell? ⟨w.heap.size, 0, none⟩ = some (.string s) ∧ W.cell? ⟨w.heap.size, 1, none⟩ = some (.slice (some a) ps.length c) ∧ W.cell? ⟨w.heap.size + 1, 0, none⟩ = some (.int .i64 b.brk) ∧ W.cell? ⟨w.heap.size + 1, 1, none⟩ = some (.int .i64 b.drag) ∧ W.cell? ⟨w.heap.size + 1, 2, none⟩ = some (.int .i64 b.drv) ∧ W.cell? ⟨w.heap.size + 1 + 1, 0, none⟩ = some (.int .i64 (p : Int)) ∧ W.cell? ⟨w.heap.size + 1 + 1, 1, none⟩ = some (.int .i64 sq) ∧ W.cell? ⟨w.heap.size + 1 + 1, 2, none⟩ = some (.int .i64 (k : Int))) := Lib.hid (fun W hW => ⟨hW, ((FC1.out.get 2 rfl).call hW.bl).cell 0, ((FC1.out.get 2 rfl).call hW.bl).cell 1, ((FC1.out.get 1 rfl).call hW.bl).cell 0, ((FC1.out.get 1 rfl).call hW.bl).cell 1, ((FC1.out.get 1 rfl).call hW.bl).cell 2, ((FC1.out.get 0 rfl).call hW.bl).cell 0, ((FC1.out.get 0 rfl).call hW.bl).cell 1, ((FC1.out.get 0 rfl).call hW.bl).cell 2⟩)
      have HAC := Lib.hid (Fr.lies HA.out FC1.out)
      have F10 : Fr wx1 _ [] := Fr.nil wx1
      go_region_held3 (fun W => Fr wx1 W [] ∧ W.cell? ⟨w.heap.size, 0, none⟩ = some (.string s) ∧ W.cell? ⟨w.heap.size, 1, none⟩ = some (.slice (some a) ps.length c) ∧ W.cell? ⟨w.heap.size + 1, 0, none⟩ = some (.int .i64 b.brk) ∧ W.cell? ⟨w.heap.size + 1, 1, none⟩ = some (.int .i64 b.drag) ∧ W.cell? ⟨w.heap.size + 1, 2, none⟩ = some (.int .i64 b.drv) ∧ W.cell? ⟨w.heap.size + 1 + 1, 0, none⟩ = some (.int .i64 (p : Int)) ∧ W.cell? ⟨w.heap.size + 1 + 1, 1, none⟩ = some (.int .i64 sq) ∧ W.cell? ⟨w.heap.size + 1 + 1, 2, none⟩ = some (.int .i64 (k : Int)))
          ((go_split_ands; refine HALL.out _ ?_; (first | assumption | (repeat (first | assumption | refine Fr.new ?_ _ | refine Fr.drew ?_ | (refine Fr.set ?_ (by first | exact Nat.le_refl _ | omega | (simp; done) | (simp; omega)) (by first | (simp; done) | (simp; omega)) _))); done)))
          ((first
            | (go_at_call 10; go_split_ands; (with_reducible refine (Copy_any s ps ⟨(some a), c⟩ (by omega) HG.out _ (Fr.lies HAC.out (by assumption))).mono ?_); rintro e w1 ⟨g2, rfl, hl2, hk2, hb1⟩; have HL2 := Lib.hid hl2; have F4 := Fr.call (by assumption) hb1; clear hb1 hl2 hk2)
            | (go_at_call 20; go_split_ands; (with_reducible refine (HLS.out _ _ _ HL2.out).mono ?_); rintro e w1 ⟨g3, rfl, hl3, hb1⟩; have HL3 := Lib.hid hl3; have F5 := Fr.call (by assumption) hb1; clear hb1 hl3)
            | fail "arm"))
      all_goals
        go_split_ands
        go_wp2_with fail
        go_meet
        exact ⟨⟨g3, rfl, rfl, HL3.out⟩, by assumption⟩
    case rest =>
      obtain ⟨wx2, rfl⟩ : ∃ W, W = wc := ⟨_, rfl⟩
      obtain ⟨⟨gx6, rfl, rfl, hy6⟩, hx⟩ := hcut
      have FC2 := Lib.hid (FC1.out.call hx.bl)
      have Y5 := Lib.hid (Lies.call Y5.out hx.bl)
      clear hx FC1
      obtain ⟨k0_0, k0_1, kf0, kg0⟩ := (FC2.out.get 2 rfl).two
      have kz0 := (FC2.out.get 2 rfl).lt
      obtain ⟨k1_0, k1_1, k1_2⟩ := (FC2.out.get 1 rfl).three
      have kz1 := (FC2.out.get 1 rfl).lt
      obtain ⟨k2_0, k2_1, k2_2⟩ := (FC2.out.get 0 rfl).three
      have kz2 := (FC2.out.get 0 rfl).lt
      have Y6 := Lib.hid hy6
      clear hy6
      go_upto_region 7 with fail
      clear k0_0 k0_1 kf0 kg0 kz0 k1_0 k1_1 k1_2 kz1 k2_0 k2_1 k2_2 kz2
      go_cut [11, 12] from 68 to 78 (fun r e W => (r = .bool (decide (er = 0)) ∧ e = .int .i64 0) ∧ Fr wx2 W [])
      case first =>
        have HALL : Hid (∀ W, Fr wx2 W [] → Fr wx2 W [] ∧ W.cell? ⟨w.heap.size, 0, none⟩ = some (.string s) ∧ W.cell? ⟨w.heap.size, 1, none⟩ = some (.slice (some a) ps.length c) ∧ W.cell? ⟨w.heap.size + 1, 0, none⟩ = some (.int .i64 b.brk) ∧ W.cell? ⟨w.heap.size + 1, 1, none⟩ = some (.int .i64 b.drag) ∧ W.cell? ⟨w.heap.size + 1, 2, none⟩ = some (.int .i64 b.drv) ∧ W.cell? ⟨w.heap.size + 1 + 1, 0, none⟩ = some (.int .i64 (p : Int)) ∧ W.cell? ⟨w.heap.size + 1 + 1, 1, none⟩ = some (.int .i64 sq) ∧ W.cell? ⟨w.heap.size + 1 + 1, 2, none⟩ = some (.int .i64 (k : Int))) := Lib.hid (fun W hW => ⟨hW, ((FC2.out.get 2 rfl).call hW.bl).cell 0, ((FC2.out.get 2 rfl).call hW.bl).cell 1, ((FC2.out.get 1 rfl).call hW.bl).cell 0, ((FC2.out.get 1 rfl).call hW.bl).cell 1, ((FC2.out.get 1 rfl).call hW.bl).cell 2, ((FC2.out.get 0 rfl).call hW.bl).cell 0, ((FC2.out.get 0 rfl).call hW.bl).cell 1, ((FC2.out.get 0 rfl).call hW.bl).cell 2⟩)
        have HAC := Lib.hid (Fr.lies HA.out FC2.out)
        have F10 : Fr wx2 _ [] := Fr.nil wx2
        go_region_held3 (fun W => Fr wx2 W [] ∧ W.cell? ⟨w.heap.size, 0, none⟩ = some (.string s) ∧ W.cell? ⟨w.heap.size, 1, none⟩ = some (.slice (some a) ps.length c) ∧ W.cell? ⟨w.heap.size + 1, 0, none⟩ = some (.int .i64 b.brk) ∧ W.cell? ⟨w.heap.size + 1, 1, none⟩ = some (.int .i64 b.drag) ∧ W.cell? ⟨w.heap.size + 1, 2, none⟩ = some (.int .i64 b.drv) ∧ W.cell? ⟨w.heap.size + 1 + 1, 0, none⟩ = some (.int .i64 (p : Int)) ∧ W.cell? ⟨w.heap.size + 1 + 1, 1, none⟩ = some (.int .i64 sq) ∧ W.cell? ⟨w.heap.size + 1 + 1, 2, none⟩ = some (.int .i64 (k : Int)))
            ((go_split_ands; refine HALL.out _ ?_; (first | assumption | (repeat (first | assumption | refine Fr.new ?_ _ | refine Fr.drew ?_ | (refine Fr.set ?_ (by first | exact Nat.le_refl _ | omega | (simp; done) | (simp; omega)) (by first | (simp; done) | (simp; omega)) _))); done)))
            ((first
              | (go_at_call 10; go_split_ands; (with_reducible refine (Copy_any s ps ⟨(some a), c⟩ (by omega) HG.out _ (Fr.lies HAC.out (by assumption))).mono ?_); rintro e w1 ⟨g2, rfl, hl2, hk2, hb1⟩; have HL2 := Lib.hid hl2; have F4 := Fr.call (by assumption) hb1; clear hb1 hl2 hk2)
              | (go_at_call 25; go_split_ands; (with_reducible refine (HRE.out _ _ _ HL2.out).mono ?_); rintro e w1 ⟨rfl, hb1⟩; have F5 := Fr.call (by assumption) hb1; clear hb1)
              | fail "arm"))
        all_goals
          go_split_ands
          go_wp2_with fail
          go_meet
          exact ⟨⟨rfl, rfl⟩, by assumption⟩
      case rest =>
        obtain ⟨wx3, rfl⟩ : ∃ W, W = wc := ⟨_, rfl⟩
        obtain ⟨⟨rfl, rfl⟩, hx⟩ := hcut
        have FC3 := Lib.hid (FC2.out.call hx.bl)
        have Y5 := Lib.hid (Lies.call Y5.out hx.bl)
        have Y6 := Lib.hid (Lies.call Y6.out hx.bl)
        clear hx FC2
        obtain ⟨k0_0, k0_1, kf0, kg0⟩ := (FC3.out.get 2 rfl).two
        have kz0 := (FC3.out.get 2 rfl).lt
        obtain ⟨k1_0, k1_1, k1_2⟩ := (FC3.out.get 1 rfl).three
        have kz1 := (FC3.out.get 1 rfl).lt
        obtain ⟨k2_0, k2_1, k2_2⟩ := (FC3.out.get 0 rfl).three
        have kz2 := (FC3.out.get 0 rfl).lt
        go_upto_region 8 with fail
        clear k0_0 k0_1 kf0 kg0 kz0 k1_0 k1_1 k1_2 kz1 k2_0 k2_1 k2_2 kz2
        go_cut [13, 14] from 79 to 89 (fun r e W => (∃ (g : Hd) (n : Nat), r = .slice g.A n g.c ∧ e = .int .i64 er) ∧ Fr wx3 W [])
        case first =>
          have HALL : Hid (∀ W, Fr wx3 W [] → Fr wx3 W [] ∧ W.cell? ⟨w.heap.size, 0, none⟩ = some (.string s) ∧ W.cell? ⟨w.heap.size, 1, none⟩ = some (.slice (some a) ps.length c) ∧ W.cell? ⟨w.heap.size + 1, 0, none⟩ = some (.int .i64 b.brk) ∧ W.cell? ⟨w.heap.size + 1, 1, none⟩ = some (.int .i64 b.drag) ∧ W.cell? ⟨w.heap.size + 1, 2, none⟩ = some (.int .i64 b.drv) ∧ W.cell? ⟨w.heap.size + 1 + 1, 0, none⟩ = some (.int .i64 (p : Int)) ∧ W.cell? ⟨w.heap.size + 1 + 1, 1, none⟩ = some (.int .i64 sq) ∧ W.cell? ⟨w.heap.size + 1 + 1, 2, none⟩ = some (.int .i64 (k : Int))) := Lib.hid (fun W hW => ⟨hW, ((FC3.out.get 2 rfl).call hW.bl).cell 0, ((FC3.out.get 2 rfl).call hW.bl).cell 1, ((FC3.out.get 1 rfl).call hW.bl).cell 0, ((FC3.out.get 1 rfl).call hW.bl).cell 1, ((FC3.out.get 1 rfl).call hW.bl).cell 2, ((FC3.out.get 0 rfl).call hW.bl).cell 0, ((FC3.out.get 0 rfl).call hW.bl).cell 1, ((FC3.out.get 0 rfl).call hW.bl).cell 2⟩)
          have HAC := Lib.hid (Fr.lies HA.out FC3.out)
          have F10 : Fr wx3 _ [] := Fr.nil wx3
          go_region_held3 (fun W => Fr wx3 W [] ∧ W.cell? ⟨w.heap.size, 0, none⟩ = some (.string s) ∧ W.cell? ⟨w.heap.size, 1, none⟩ = some (.slice (some a) ps.length c) ∧ W.cell? ⟨w.heap.size + 1, 0, none⟩ = some (.int .i64 b.brk) ∧ W.cell? ⟨w.heap.size + 1, 1, none⟩ = some (.int .i64 b.drag) ∧ W.cell? ⟨w.heap.size + 1, 2, none⟩ = some (.int .i64 b.drv) ∧ W.cell? ⟨w.heap.size + 1 + 1, 0, none⟩ = some (.int .i64 (p : Int)) ∧ W.cell? ⟨w.heap.size + 1 + 1, 1, none⟩ = some (.int .i64 sq) ∧ W.cell? ⟨w.heap.size + 1 + 1, 2, none⟩ = some (.int .i64 (k : Int)))
              ((go_split_ands; refine HALL.out _ ?_; (first | assumption | (repeat (first | assumption | refine Fr.new ?_ _ | refine Fr.drew ?_ | (refine Fr.set ?_ (by first | exact Nat.le_refl _ | omega | (simp; done) | (simp; omega)) (by first | (simp; done) | (simp; omega)) _))); done)))
              ((first
                | (go_at_call 10; go_split_ands; (with_reducible refine (Copy_any s ps ⟨(some a), c⟩ (by omega) HG.out _ (Fr.lies HAC.out (by assumption))).mono ?_); rintro e w1 ⟨g2, rfl, hl2, hk2, hb1⟩; have HL2 := Lib.hid hl2; have F4 := Fr.call (by assumption) hb1; clear hb1 hl2 hk2)
                | (go_at_call 26; go_split_ands; (with_reducible refine (HRT.out _ _ _ HL2.out).mono ?_); rintro e w1 ⟨g3, n3, rfl, hb1⟩; have F5 := Fr.call (by assumption) hb1; clear hb1)
                | fail "arm"))
          all_goals
            go_split_ands
            go_wp2_with fail
            go_meet
            exact ⟨⟨g3, n3, rfl, rfl⟩, by assumption⟩
        case rest =>
          obtain ⟨wx4, rfl⟩ : ∃ W, W = wc := ⟨_, rfl⟩
          obtain ⟨⟨gx8, n8, rfl, rfl⟩, hx⟩ := hcut
          have FC4 := Lib.hid (FC3.out.call hx.bl)
          have Y5 := Lib.hid (Lies.call Y5.out hx.bl)
          have Y6 := Lib.hid (Lies.call Y6.out hx.bl)
          clear hx FC3
          obtain ⟨k0_0, k0_1, kf0, kg0⟩ := (FC4.out.get 2 rfl).two
          have kz0 := (FC4.out.get 2 rfl).lt
          obtain ⟨k1_0, k1_1, k1_2⟩ := (FC4.out.get 1 rfl).three
          have kz1 := (FC4.out.get 1 rfl).lt
          obtain ⟨k2_0, k2_1, k2_2⟩ := (FC4.out.get 0 rfl).three
          have kz2 := (FC4.out.get 0 rfl).lt
          have hw1 := IntWalk.i64_in ((k : Int) + 1) (by omega)
          have hw2 := IntWalk.i64_in ((k : Int) + 2) (by omega)
          have hn1 : (((k + 1 : Nat) : Int) != (k : Int) + 1) = false := by simp
          have hn2 : (((k + 2 : Nat) : Int) != (k : Int) + 2) = false := by simp
          have hpl1 : (p : Int) < (k : Int) + 1 := by omega
          have hpl2 : (p : Int) < (k : Int) + 2 := by omega
          obtain ⟨zl, hzl⟩ : ∃ zl, lstV ps b.drag k p = zl := ⟨_, rfl⟩
          obtain ⟨zc, hzc⟩ : ∃ zc, crvV ps b.brk k p = zc := ⟨_, rfl⟩
          have HB0 : Hid (btwF ps b k p sq 0 = (decide (zl ≤ sq) && decide (sq ≤ zc))) := Lib.hid (by rw [btwF, hzl, hzc])
          obtain ⟨A6, c6⟩ := gx6
          obtain ⟨A5, c5⟩ := gx5
          obtain ⟨al6, ea6, _, cl6⟩ := Y6.out.num (listF_at (n := k + 1) (f := lstV ps b.drag k) (k := p) (by omega))
          obtain ⟨al5, ea5, _, cl5⟩ := Y5.out.num (listF_at (n := k + 2) (f := crvV ps b.brk k) (k := p) (by omega))
          simp only at ea5 ea6
          subst ea5
          subst ea6
          rw [hzl] at cl6
          rw [hzc] at cl5
          clear hzl hzc
          go_upto_region 11 with fail
          go_cut [15] from 116 to 137 (fun r W => r = .bool (btwF ps b k p sq 0) ∧ Fr wx4 W [])
          case first =>
            by_cases d1 : zl ≤ sq
            · by_cases d2 : sq ≤ zc
              · have e1 : decide (zl ≤ sq) = true := decide_eq_true d1
                have e2 : decide (sq ≤ zc) = true := decide_eq_true d2
                have HV : Hid (btwF ps b k p sq 0 = true) := Lib.hid (by rw [HB0.out, e1, e2]; rfl)
                go_quiet (fail)
                go_wp2_with fail
                go_meet
                exact ⟨congrArg Value.bool HV.out.symm, (Fr.nil _).call (below_drewN (Below.refl _ _) _)⟩
              · have e1 : decide (zl ≤ sq) = true := decide_eq_true d1
                have e2 : decide (sq ≤ zc) = false := decide_eq_false d2
                have HV : Hid (btwF ps b k p sq 0 = false) := Lib.hid (by rw [HB0.out, e1, e2]; rfl)
                go_quiet (fail)
                go_wp2_with fail
                go_meet
                exact ⟨congrArg Value.bool HV.out.symm, (Fr.nil _).call (below_drewN (Below.refl _ _) _)⟩
            · have e1 : decide (zl ≤ sq) = false := decide_eq_false d1
              have HV : Hid (btwF ps b k p sq 0 = false) := Lib.hid (by rw [HB0.out, e1]; rfl)
              go_quiet (fail)
              go_wp2_with fail
              go_meet
              exact ⟨congrArg Value.bool HV.out.symm, (Fr.nil _).call (below_drewN (Below.refl _ _) _)⟩
          case rest =>
            obtain ⟨wy, rfl⟩ : ∃ W, W = wc := ⟨_, rfl⟩
            obtain ⟨rfl, hx⟩ := hcut
            have FY := Lib.hid (FC4.out.call hx.bl)
            have Y5 := Lib.hid (Lies.call Y5.out hx.bl)
            have Y6 := Lib.hid (Lies.call Y6.out hx.bl)
            clear hx FC4 cl5 cl6 k0_0 k0_1 kf0 kg0 kz0 k1_0 k1_1 k1_2 kz1 k2_0 k2_1 k2_2 kz2
            have y0 := (FY.out.get 0 rfl).cell 0
            go_wp2_with fail
            go_loopw [15, 16] (fun bv i wr => ∃ t : Nat, t ≤ k - p + 1 ∧ i = .int .i64 ((p : Int) + t) ∧ bv = .bool (btwF ps b k p sq t) ∧ Fr wy wr []) (fun _ i _ => k + 1 - (intOf i).toNat)
            case atStart => exact ⟨0, Nat.zero_le _, by first | rfl | exact cong64 (by omega), rfl, Fr.nil wy⟩
            case round =>
              obtain ⟨t, ht, rfl, rfl, hf⟩ := hrel
              clear y0
              have HF := Lib.hid hf
              have y2 := ((FY.out.get 0 rfl).call hf.bl).cell 2
              obtain ⟨j, hj⟩ : ∃ j : Nat, j = p + t := ⟨_, rfl⟩
              have hji : (p : Int) + (t : Int) = (j : Int) := by omega
              rw [hji]
              by_cases hlt : j ≤ k
              · have hlt' : (j : Int) ≤ (k : Int) := by omega
                have hjl1 : (j : Int) < (k : Int) + 1 := by omega
                have hjl2 : (j : Int) < (k : Int) + 2 := by omega
                have hwj := IntWalk.i64_in ((j : Int) + 1) (by omega)
                obtain ⟨ul, hul⟩ : ∃ ul, lstV ps b.drag k j = ul := ⟨_, rfl⟩
                obtain ⟨uc, huc⟩ : ∃ uc, crvV ps b.brk k j = uc := ⟨_, rfl⟩
                obtain ⟨bt, hbt⟩ : ∃ bt, btwF ps b k p sq t = bt := ⟨_, rfl⟩
                have HS : Hid (btwF ps b k p sq (t + 1) = (bt && (!decide (uc = -1) && decide (ul ≤ uc)))) := Lib.hid (by rw [btwF, hbt, ← hj, hul, huc])
                rw [hbt]
                obtain ⟨b6, eb6, _, cm6⟩ := (Lies.call Y6.out hf.bl).num (listF_at (n := k + 1) (f := lstV ps b.drag k) (k := j) (by omega))
                obtain ⟨b5, eb5, _, cm5⟩ := (Lies.call Y5.out hf.bl).num (listF_at (n := k + 2) (f := crvV ps b.brk k) (k := j) (by omega))
                simp only [Option.some.injEq] at eb5 eb6
                subst eb5
                subst eb6
                rw [hul] at cm6
                rw [huc] at cm5
                have ht2 : t + 1 ≤ k - p + 1 := by omega
                have HJ : Hid ((j : Int) + 1 = (p : Int) + ((t + 1 : Nat) : Int)) := Lib.hid (by omega)
                clear hul huc hbt hj hji hf
                cases bt with
                | false =>
                  have HV : Hid (false = btwF ps b k p sq (t + 1)) := Lib.hid (by rw [HS.out]; rfl)
                  go_wp2_with fail
                  go_quiet (fail)
                  go_wp2_with fail
                  go_roundw
                  case rel => exact ⟨t + 1, ht2, cong64 HJ.out, congrArg Value.bool HV.out, HF.out.call (below_drewN (Below.refl _ _) _)⟩
                  case measure => simp [intOf] <;> omega
                | true =>
                  by_cases d1 : uc = -1
                  · have g1 : (uc != -1) = false := by simp [d1]
                    have HV : Hid (false = btwF ps b k p sq (t + 1)) := Lib.hid (by rw [HS.out, decide_eq_true d1]; rfl)
                    clear d1
                    go_wp2_with fail
                    go_quiet (fail)
                    go_wp2_with fail
                    go_roundw
                    case rel => exact ⟨t + 1, ht2, cong64 HJ.out, congrArg Value.bool HV.out, HF.out.call (below_drewN (Below.refl _ _) _)⟩
                    case measure => simp [intOf] <;> omega
                  · have g1 : (uc != -1) = true := by simp [d1]
                    by_cases d2 : ul ≤ uc
                    · have e2 : decide (ul ≤ uc) = true := decide_eq_true d2
                      have HV : Hid (true = btwF ps b k p sq (t + 1)) := Lib.hid (by rw [HS.out, decide_eq_false d1, e2]; rfl)
                      clear d1
                      go_wp2_with fail
                      go_quiet (fail)
                      go_wp2_with fail
                      go_roundw
                      case rel => exact ⟨t + 1, ht2, cong64 HJ.out, congrArg Value.bool HV.out, HF.out.call (below_drewN (Below.refl _ _) _)⟩
                      case measure => simp [intOf] <;> omega
                    · have e2 : decide (ul ≤ uc) = false := decide_eq_false d2
                      have HV : Hid (false = btwF ps b k p sq (t + 1)) := Lib.hid (by rw [HS.out, decide_eq_false d1, e2]; rfl)
                      clear d1
                      go_wp2_with fail
                      go_quiet (fail)
                      go_wp2_with fail
                      go_roundw
                      case rel => exact ⟨t + 1, ht2, cong64 HJ.out, congrArg Value.bool HV.out, HF.out.call (below_drewN (Below.refl _ _) _)⟩
                      case measure => simp [intOf] <;> omega
              · obtain rfl : t = k - p + 1 := by omega
                have hge : ¬ ((j : Int) ≤ (k : Int)) := by omega
                rw [HEND.out]
                clear hj hji
                rcases HTHREE.out with e0 | e0 | e0
                all_goals
                  subst e0
                  go_wp2_with fail
                  go_ret
                  exact ⟨rfl, (FY.out.call HF.out.bl).bl⟩

set_option maxHeartbeats 8000000 in
set_option maxRecDepth 100000 in
theorem BrakeTwoWays_any (s : ByteArray) (hs : s.size ≤ maxLen) (ps : List Bp) (A : Option Addr) (c : Nat) (hg : HdOk ⟨A, c⟩) (hl : ps.length ≤ maxLen) (b : Bs) (p sq stop : Int) (w : World) (hA : Lies w w.heap.size A (ps.flatMap pc)) : Calls Try.prog 6 #[.agg #[.string s, .slice A ps.length c], .agg #[.int .i64 b.brk, .int .i64 b.drag, .int .i64 b.drv], .agg #[.int .i64 p, .int .i64 sq, .int .i64 stop]] w fun e w' => e = .returned (.bool true) ∧ Below w.heap.size w w' := by
  cases hsh : shortB s ps with
  | false => exact tw_long s hs ps A c hg hl b p sq stop hsh w hA
  | true =>
    by_cases h0 : bothE s ps b = 0
    · by_cases h1 : stateE ps p sq = 0
      · by_cases h2 : stopE ps stop = 0
        · by_cases h3 : stop < p
          · exact tw_bad3 s hs ps A c hg hl b p sq stop hsh h0 h1 h2 h3 w hA
          · obtain ⟨k, rfl, _⟩ := stopE_ok h2
            obtain ⟨q, rfl, _⟩ := stateE_ok h1
            exact tw_ok s hs ps A c hg hl b q k sq hsh h0 h1 h2 (by omega) w hA
        · exact tw_bad2 s hs ps A c hg hl b p sq stop hsh _ h2 h0 h1 rfl w hA
      · exact tw_bad1 s hs ps A c hg hl b p sq stop hsh _ h1 h0 rfl w hA
    · exact tw_bad0 s hs ps A c hg hl b p sq stop hsh _ h0 rfl w hA
end Go.Proofs.Ytlmfpodajmmdeaa
