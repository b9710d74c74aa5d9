
/-
  The walk of BrakeBetter.
-/
import Derived.Test.YtklllckphddkjaaBKit
import Derived.Test.YtklllckphddkjaaBBeP
import Derived.Test.YtklllckphddkjaaBErr
import Derived.Test.YtklllckphddkjaaBRnC
import Derived.Test.YtklllckphddkjaaTFrx
namespace Go.Proofs.Ytklllckphddkjaa
open Go.RowKit

theorem Fr.put3n {w W : World} {bs : List (Nat × TypeId × Array Value)} {g : Nat} {t : TypeId} {x y z : Value} (h : Fr w W ((g, t, #[x, y, z]) :: bs)) (hg : w.heap.size ≤ g) (hn : ∀ b ∈ bs, b.1 ≠ g) (u0 u1 u2 : Value) : Fr w (((W.setCell ⟨g, 0, none⟩ u0).setCell ⟨g, 1, none⟩ u1).setCell ⟨g, 2, none⟩ u2) ((g, t, #[u0, u1, u2]) :: bs) := by
  have h0 := h.put 0 u0 hg hn
  have h1 := h0.put 1 u1 hg hn
  have h2 := h1.put 2 u2 hg hn
  exact h2
theorem Fr.vals2 {w W : World} {bs : List (Nat × TypeId × Array Value)} {p q : Addr} {u v u' v' : Value} (h : Fr w ((W.setCell p u).setCell q v) bs) (hu : u = u') (hv : v = v') : Fr w ((W.setCell p u').setCell q v') bs := by subst hu hv; exact h

set_option maxHeartbeats 8000000 in
set_option maxRecDepth 100000 in
theorem be_long (s : ByteArray) (hs : s.size ≤ maxLen) (ps : List Bp) (A : Option Addr) (c : Nat) (hg : HdOk ⟨A, c⟩) (hl : ps.length ≤ maxLen) (b : Bs) (p sq stop : Int) (hsh : shortB s ps = false) (w : World) (hA : Lies w w.heap.size A (ps.flatMap pc)) : Calls Try.prog 7 #[.agg #[.string s, .slice A ps.length c], .agg #[.int .i64 b.brk, .int .i64 b.drag, .int .i64 b.drv], .agg #[.int .i64 p, .int .i64 sq, .int .i64 stop]] w fun e w' => e = .returned (.bool true) ∧ Below w.heap.size w w' := by
  have F0 := Lib.hid (Fr.b3 w 24 #[.string s, .slice A ps.length c] 26 #[.int .i64 b.brk, .int .i64 b.drag, .int .i64 b.drv] 30 #[.int .i64 p, .int .i64 sq, .int .i64 stop])
  have HA := Lib.hid hA
  have HG := Lib.hid hg
  clear hA hg
  have HSH := Lib.hid hsh
  clear hsh
  go_enter Try.func7, Try.ntmps7
  go_wp2_with fail
  refine (awake_any _).mono ?_
  rintro e w1 ⟨rfl, hb1⟩
  have G1 := Fr.call F0.out hb1
  obtain ⟨k0_0, k0_1, kf0, kg0⟩ := (G1.get 2 rfl).two
  have kz0 := (G1.get 2 rfl).lt
  obtain ⟨k1_0, k1_1, k1_2⟩ := (G1.get 1 rfl).three
  have kz1 := (G1.get 1 rfl).lt
  obtain ⟨k2_0, k2_1, k2_2⟩ := (G1.get 0 rfl).three
  have kz2 := (G1.get 0 rfl).lt
  have F1 : Hid (Fr w _ [(w.heap.size + 1 + 1, 30, #[.int .i64 p, .int .i64 sq, .int .i64 stop]), (w.heap.size + 1, 26, #[.int .i64 b.brk, .int .i64 b.drag, .int .i64 b.drv]), (w.heap.size, 24, #[.string s, .slice A ps.length c])]) := Lib.hid G1
  clear hb1 G1 F0
  go_wp2_with fail
  refine (Short_any s hs ps A c hl _).mono ?_
  rintro e w2 ⟨rfl, hb2⟩
  rw [HSH.out]
  clear k0_0 k0_1 kf0 kg0 kz0 k1_0 k1_1 k1_2 kz1 k2_0 k2_1 k2_2 kz2
  have G2 := Fr.call F1.out hb2
  obtain ⟨k0_0, k0_1, kf0, kg0⟩ := (G2.get 2 rfl).two
  have kz0 := (G2.get 2 rfl).lt
  obtain ⟨k1_0, k1_1, k1_2⟩ := (G2.get 1 rfl).three
  have kz1 := (G2.get 1 rfl).lt
  obtain ⟨k2_0, k2_1, k2_2⟩ := (G2.get 0 rfl).three
  have kz2 := (G2.get 0 rfl).lt
  have F2 : Hid (Fr w _ [(w.heap.size + 1 + 1, 30, #[.int .i64 p, .int .i64 sq, .int .i64 stop]), (w.heap.size + 1, 26, #[.int .i64 b.brk, .int .i64 b.drag, .int .i64 b.drv]), (w.heap.size, 24, #[.string s, .slice A ps.length c])]) := Lib.hid G2
  clear hb2 G2 F1
  go_wp2_with fail
  go_ret
  exact ⟨rfl, F2.out.bl⟩

set_option maxHeartbeats 8000000 in
set_option maxRecDepth 100000 in
theorem be_bad0 (s : ByteArray) (hs : s.size ≤ maxLen) (ps : List Bp) (A : Option Addr) (c : Nat) (hg : HdOk ⟨A, c⟩) (hl : ps.length ≤ maxLen) (b : Bs) (p sq stop : Int) (hsh : shortB s ps = true) (er : Int) (hr : er ≠ 0) (hb0 : bothE s ps b = er) (w : World) (hA : Lies w w.heap.size A (ps.flatMap pc)) : Calls Try.prog 7 #[.agg #[.string s, .slice A ps.length c], .agg #[.int .i64 b.brk, .int .i64 b.drag, .int .i64 b.drv], .agg #[.int .i64 p, .int .i64 sq, .int .i64 stop]] w fun e w' => e = .returned (.bool true) ∧ Below w.heap.size w w' := by
  have F0 := Lib.hid (Fr.b3 w 24 #[.string s, .slice A ps.length c] 26 #[.int .i64 b.brk, .int .i64 b.drag, .int .i64 b.drv] 30 #[.int .i64 p, .int .i64 sq, .int .i64 stop])
  have HA := Lib.hid hA
  have HG := Lib.hid hg
  clear hA hg
  have HSH := Lib.hid hsh
  have hl14 : ps.length ≤ 14 := (short_iff.1 hsh).2
  clear hsh
  have HE := Lib.hid hb0
  have gn : (er != 0) = true := by simp [hr]
  clear hr hb0
  go_enter Try.func7, Try.ntmps7
  go_wp2_with fail
  refine (awake_any _).mono ?_
  rintro e w1 ⟨rfl, hb1⟩
  have G1 := Fr.call F0.out hb1
  obtain ⟨k0_0, k0_1, kf0, kg0⟩ := (G1.get 2 rfl).two
  have kz0 := (G1.get 2 rfl).lt
  obtain ⟨k1_0, k1_1, k1_2⟩ := (G1.get 1 rfl).three
  have kz1 := (G1.get 1 rfl).lt
  obtain ⟨k2_0, k2_1, k2_2⟩ := (G1.get 0 rfl).three
  have kz2 := (G1.get 0 rfl).lt
  have F1 : Hid (Fr w _ [(w.heap.size + 1 + 1, 30, #[.int .i64 p, .int .i64 sq, .int .i64 stop]), (w.heap.size + 1, 26, #[.int .i64 b.brk, .int .i64 b.drag, .int .i64 b.drv]), (w.heap.size, 24, #[.string s, .slice A ps.length c])]) := Lib.hid G1
  clear hb1 G1 F0
  go_wp2_with fail
  refine (Short_any s hs ps A c hl _).mono ?_
  rintro e w2 ⟨rfl, hb2⟩
  rw [HSH.out]
  clear k0_0 k0_1 kf0 kg0 kz0 k1_0 k1_1 k1_2 kz1 k2_0 k2_1 k2_2 kz2
  have G2 := Fr.call F1.out hb2
  obtain ⟨k0_0, k0_1, kf0, kg0⟩ := (G2.get 2 rfl).two
  have kz0 := (G2.get 2 rfl).lt
  obtain ⟨k1_0, k1_1, k1_2⟩ := (G2.get 1 rfl).three
  have kz1 := (G2.get 1 rfl).lt
  obtain ⟨k2_0, k2_1, k2_2⟩ := (G2.get 0 rfl).three
  have kz2 := (G2.get 0 rfl).lt
  have F2 : Hid (Fr w _ [(w.heap.size + 1 + 1, 30, #[.int .i64 p, .int .i64 sq, .int .i64 stop]), (w.heap.size + 1, 26, #[.int .i64 b.brk, .int .i64 b.drag, .int .i64 b.drv]), (w.heap.size, 24, #[.string s, .slice A ps.length c])]) := Lib.hid G2
  clear hb2 G2 F1
  go_wp2_with fail
  refine (BothErr_any s hs ps A c hl b _ (Fr.lies HA.out F2.out)).mono ?_
  rintro e w3 ⟨rfl, hb3⟩
  rw [HE.out]
  clear k0_0 k0_1 kf0 kg0 kz0 k1_0 k1_1 k1_2 kz1 k2_0 k2_1 k2_2 kz2
  have G3 := Fr.call F2.out hb3
  obtain ⟨k0_0, k0_1, kf0, kg0⟩ := (G3.get 2 rfl).two
  have kz0 := (G3.get 2 rfl).lt
  obtain ⟨k1_0, k1_1, k1_2⟩ := (G3.get 1 rfl).three
  have kz1 := (G3.get 1 rfl).lt
  obtain ⟨k2_0, k2_1, k2_2⟩ := (G3.get 0 rfl).three
  have kz2 := (G3.get 0 rfl).lt
  have F3 : Hid (Fr w _ [(w.heap.size + 1 + 1, 30, #[.int .i64 p, .int .i64 sq, .int .i64 stop]), (w.heap.size + 1, 26, #[.int .i64 b.brk, .int .i64 b.drag, .int .i64 b.drv]), (w.heap.size, 24, #[.string s, .slice A ps.length c])]) := Lib.hid G3
  clear hb3 G3 F2
  go_wp2_with fail
  go_ret
  exact ⟨rfl, F3.out.bl⟩

set_option maxHeartbeats 8000000 in
set_option maxRecDepth 100000 in
theorem be_bad1 (s : ByteArray) (hs : s.size ≤ maxLen) (ps : List Bp) (A : Option Addr) (c : Nat) (hg : HdOk ⟨A, c⟩) (hl : ps.length ≤ maxLen) (b : Bs) (p sq stop : Int) (hsh : shortB s ps = true) (er : Int) (hr : er ≠ 0) (h0 : bothE s ps b = 0) (hb0 : stateE ps p sq = er) (w : World) (hA : Lies w w.heap.size A (ps.flatMap pc)) : Calls Try.prog 7 #[.agg #[.string s, .slice A ps.length c], .agg #[.int .i64 b.brk, .int .i64 b.drag, .int .i64 b.drv], .agg #[.int .i64 p, .int .i64 sq, .int .i64 stop]] w fun e w' => e = .returned (.bool true) ∧ Below w.heap.size w w' := by
  have F0 := Lib.hid (Fr.b3 w 24 #[.string s, .slice A ps.length c] 26 #[.int .i64 b.brk, .int .i64 b.drag, .int .i64 b.drv] 30 #[.int .i64 p, .int .i64 sq, .int .i64 stop])
  have HA := Lib.hid hA
  have HG := Lib.hid hg
  clear hA hg
  have HSH := Lib.hid hsh
  have hl14 : ps.length ≤ 14 := (short_iff.1 hsh).2
  clear hsh
  have HE := Lib.hid hb0
  have gn : (er != 0) = true := by simp [hr]
  clear hr hb0
  have H0 := Lib.hid h0
  clear h0
  go_enter Try.func7, Try.ntmps7
  go_wp2_with fail
  refine (awake_any _).mono ?_
  rintro e w1 ⟨rfl, hb1⟩
  have G1 := Fr.call F0.out hb1
  obtain ⟨k0_0, k0_1, kf0, kg0⟩ := (G1.get 2 rfl).two
  have kz0 := (G1.get 2 rfl).lt
  obtain ⟨k1_0, k1_1, k1_2⟩ := (G1.get 1 rfl).three
  have kz1 := (G1.get 1 rfl).lt
  obtain ⟨k2_0, k2_1, k2_2⟩ := (G1.get 0 rfl).three
  have kz2 := (G1.get 0 rfl).lt
  have F1 : Hid (Fr w _ [(w.heap.size + 1 + 1, 30, #[.int .i64 p, .int .i64 sq, .int .i64 stop]), (w.heap.size + 1, 26, #[.int .i64 b.brk, .int .i64 b.drag, .int .i64 b.drv]), (w.heap.size, 24, #[.string s, .slice A ps.length c])]) := Lib.hid G1
  clear hb1 G1 F0
  go_wp2_with fail
  refine (Short_any s hs ps A c hl _).mono ?_
  rintro e w2 ⟨rfl, hb2⟩
  rw [HSH.out]
  clear k0_0 k0_1 kf0 kg0 kz0 k1_0 k1_1 k1_2 kz1 k2_0 k2_1 k2_2 kz2
  have G2 := Fr.call F1.out hb2
  obtain ⟨k0_0, k0_1, kf0, kg0⟩ := (G2.get 2 rfl).two
  have kz0 := (G2.get 2 rfl).lt
  obtain ⟨k1_0, k1_1, k1_2⟩ := (G2.get 1 rfl).three
  have kz1 := (G2.get 1 rfl).lt
  obtain ⟨k2_0, k2_1, k2_2⟩ := (G2.get 0 rfl).three
  have kz2 := (G2.get 0 rfl).lt
  have F2 : Hid (Fr w _ [(w.heap.size + 1 + 1, 30, #[.int .i64 p, .int .i64 sq, .int .i64 stop]), (w.heap.size + 1, 26, #[.int .i64 b.brk, .int .i64 b.drag, .int .i64 b.drv]), (w.heap.size, 24, #[.string s, .slice A ps.length c])]) := Lib.hid G2
  clear hb2 G2 F1
  go_wp2_with fail
  refine (BothErr_any s hs ps A c hl b _ (Fr.lies HA.out F2.out)).mono ?_
  rintro e w3 ⟨rfl, hb3⟩
  rw [H0.out]
  clear k0_0 k0_1 kf0 kg0 kz0 k1_0 k1_1 k1_2 kz1 k2_0 k2_1 k2_2 kz2
  have G3 := Fr.call F2.out hb3
  obtain ⟨k0_0, k0_1, kf0, kg0⟩ := (G3.get 2 rfl).two
  have kz0 := (G3.get 2 rfl).lt
  obtain ⟨k1_0, k1_1, k1_2⟩ := (G3.get 1 rfl).three
  have kz1 := (G3.get 1 rfl).lt
  obtain ⟨k2_0, k2_1, k2_2⟩ := (G3.get 0 rfl).three
  have kz2 := (G3.get 0 rfl).lt
  have F3 : Hid (Fr w _ [(w.heap.size + 1 + 1, 30, #[.int .i64 p, .int .i64 sq, .int .i64 stop]), (w.heap.size + 1, 26, #[.int .i64 b.brk, .int .i64 b.drag, .int .i64 b.drv]), (w.heap.size, 24, #[.string s, .slice A ps.length c])]) := Lib.hid G3
  clear hb3 G3 F2
  go_wp2_with fail
  refine (StateErr_any s ps A c (by omega) p sq _).mono ?_
  rintro e w4 ⟨rfl, hb4⟩
  rw [HE.out]
  clear k0_0 k0_1 kf0 kg0 kz0 k1_0 k1_1 k1_2 kz1 k2_0 k2_1 k2_2 kz2
  have G4 := Fr.call F3.out hb4
  obtain ⟨k0_0, k0_1, kf0, kg0⟩ := (G4.get 2 rfl).two
  have kz0 := (G4.get 2 rfl).lt
  obtain ⟨k1_0, k1_1, k1_2⟩ := (G4.get 1 rfl).three
  have kz1 := (G4.get 1 rfl).lt
  obtain ⟨k2_0, k2_1, k2_2⟩ := (G4.get 0 rfl).three
  have kz2 := (G4.get 0 rfl).lt
  have F4 : Hid (Fr w _ [(w.heap.size + 1 + 1, 30, #[.int .i64 p, .int .i64 sq, .int .i64 stop]), (w.heap.size + 1, 26, #[.int .i64 b.brk, .int .i64 b.drag, .int .i64 b.drv]), (w.heap.size, 24, #[.string s, .slice A ps.length c])]) := Lib.hid G4
  clear hb4 G4 F3
  go_wp2_with fail
  go_ret
  exact ⟨rfl, F4.out.bl⟩

set_option maxHeartbeats 8000000 in
set_option maxRecDepth 100000 in
theorem be_bad2 (s : ByteArray) (hs : s.size ≤ maxLen) (ps : List Bp) (A : Option Addr) (c : Nat) (hg : HdOk ⟨A, c⟩) (hl : ps.length ≤ maxLen) (b : Bs) (p sq stop : Int) (hsh : shortB s ps = true) (er : Int) (hr : er ≠ 0) (h0 : bothE s ps b = 0) (h1 : stateE ps p sq = 0) (hb0 : stopE ps stop = er) (w : World) (hA : Lies w w.heap.size A (ps.flatMap pc)) : Calls Try.prog 7 #[.agg #[.string s, .slice A ps.length c], .agg #[.int .i64 b.brk, .int .i64 b.drag, .int .i64 b.drv], .agg #[.int .i64 p, .int .i64 sq, .int .i64 stop]] w fun e w' => e = .returned (.bool true) ∧ Below w.heap.size w w' := by
  have F0 := Lib.hid (Fr.b3 w 24 #[.string s, .slice A ps.length c] 26 #[.int .i64 b.brk, .int .i64 b.drag, .int .i64 b.drv] 30 #[.int .i64 p, .int .i64 sq, .int .i64 stop])
  have HA := Lib.hid hA
  have HG := Lib.hid hg
  clear hA hg
  have HSH := Lib.hid hsh
  have hl14 : ps.length ≤ 14 := (short_iff.1 hsh).2
  clear hsh
  have HE := Lib.hid hb0
  have gn : (er != 0) = true := by simp [hr]
  clear hr hb0
  have H0 := Lib.hid h0
  have H1 := Lib.hid h1
  clear h0 h1
  go_enter Try.func7, Try.ntmps7
  go_wp2_with fail
  refine (awake_any _).mono ?_
  rintro e w1 ⟨rfl, hb1⟩
  have G1 := Fr.call F0.out hb1
  obtain ⟨k0_0, k0_1, kf0, kg0⟩ := (G1.get 2 rfl).two
  have kz0 := (G1.get 2 rfl).lt
  obtain ⟨k1_0, k1_1, k1_2⟩ := (G1.get 1 rfl).three
  have kz1 := (G1.get 1 rfl).lt
  obtain ⟨k2_0, k2_1, k2_2⟩ := (G1.get 0 rfl).three
  have kz2 := (G1.get 0 rfl).lt
  have F1 : Hid (Fr w _ [(w.heap.size + 1 + 1, 30, #[.int .i64 p, .int .i64 sq, .int .i64 stop]), (w.heap.size + 1, 26, #[.int .i64 b.brk, .int .i64 b.drag, .int .i64 b.drv]), (w.heap.size, 24, #[.string s, .slice A ps.length c])]) := Lib.hid G1
  clear hb1 G1 F0
  go_wp2_with fail
  refine (Short_any s hs ps A c hl _).mono ?_
  rintro e w2 ⟨rfl, hb2⟩
  rw [HSH.out]
  clear k0_0 k0_1 kf0 kg0 kz0 k1_0 k1_1 k1_2 kz1 k2_0 k2_1 k2_2 kz2
  have G2 := Fr.call F1.out hb2
  obtain ⟨k0_0, k0_1, kf0, kg0⟩ := (G2.get 2 rfl).two
  have kz0 := (G2.get 2 rfl).lt
  obtain ⟨k1_0, k1_1, k1_2⟩ := (G2.get 1 rfl).three
  have kz1 := (G2.get 1 rfl).lt
  obtain ⟨k2_0, k2_1, k2_2⟩ := (G2.get 0 rfl).three
  have kz2 := (G2.get 0 rfl).lt
  have F2 : Hid (Fr w _ [(w.heap.size + 1 + 1, 30, #[.int .i64 p, .int .i64 sq, .int .i64 stop]), (w.heap.size + 1, 26, #[.int .i64 b.brk, .int .i64 b.drag, .int .i64 b.drv]), (w.heap.size, 24, #[.string s, .slice A ps.length c])]) := Lib.hid G2
  clear hb2 G2 F1
  go_wp2_with fail
  refine (BothErr_any s hs ps A c hl b _ (Fr.lies HA.out F2.out)).mono ?_
  rintro e w3 ⟨rfl, hb3⟩
  rw [H0.out]
  clear k0_0 k0_1 kf0 kg0 kz0 k1_0 k1_1 k1_2 kz1 k2_0 k2_1 k2_2 kz2
  have G3 := Fr.call F2.out hb3
  obtain ⟨k0_0, k0_1, kf0, kg0⟩ := (G3.get 2 rfl).two
  have kz0 := (G3.get 2 rfl).lt
  obtain ⟨k1_0, k1_1, k1_2⟩ := (G3.get 1 rfl).three
  have kz1 := (G3.get 1 rfl).lt
  obtain ⟨k2_0, k2_1, k2_2⟩ := (G3.get 0 rfl).three
  have kz2 := (G3.get 0 rfl).lt
  have F3 : Hid (Fr w _ [(w.heap.size + 1 + 1, 30, #[.int .i64 p, .int .i64 sq, .int .i64 stop]), (w.heap.size + 1, 26, #[.int .i64 b.brk, .int .i64 b.drag, .int .i64 b.drv]), (w.heap.size, 24, #[.string s, .slice A ps.length c])]) := Lib.hid G3
  clear hb3 G3 F2
  go_wp2_with fail
  refine (StateErr_any s ps A c (by omega) p sq _).mono ?_
  rintro e w4 ⟨rfl, hb4⟩
  rw [H1.out]
  clear k0_0 k0_1 kf0 kg0 kz0 k1_0 k1_1 k1_2 kz1 k2_0 k2_1 k2_2 kz2
  have G4 := Fr.call F3.out hb4
  obtain ⟨k0_0, k0_1, kf0, kg0⟩ := (G4.get 2 rfl).two
  have kz0 := (G4.get 2 rfl).lt
  obtain ⟨k1_0, k1_1, k1_2⟩ := (G4.get 1 rfl).three
  have kz1 := (G4.get 1 rfl).lt
  obtain ⟨k2_0, k2_1, k2_2⟩ := (G4.get 0 rfl).three
  have kz2 := (G4.get 0 rfl).lt
  have F4 : Hid (Fr w _ [(w.heap.size + 1 + 1, 30, #[.int .i64 p, .int .i64 sq, .int .i64 stop]), (w.heap.size + 1, 26, #[.int .i64 b.brk, .int .i64 b.drag, .int .i64 b.drv]), (w.heap.size, 24, #[.string s, .slice A ps.length c])]) := Lib.hid G4
  clear hb4 G4 F3
  go_wp2_with fail
  refine (StopErr_any s ps A c (by omega) stop _ (Fr.lies HA.out F4.out)).mono ?_
  rintro e w5 ⟨rfl, hb5⟩
  rw [HE.out]
  clear k0_0 k0_1 kf0 kg0 kz0 k1_0 k1_1 k1_2 kz1 k2_0 k2_1 k2_2 kz2
  have G5 := Fr.call F4.out hb5
  obtain ⟨k0_0, k0_1, kf0, kg0⟩ := (G5.get 2 rfl).two
  have kz0 := (G5.get 2 rfl).lt
  obtain ⟨k1_0, k1_1, k1_2⟩ := (G5.get 1 rfl).three
  have kz1 := (G5.get 1 rfl).lt
  obtain ⟨k2_0, k2_1, k2_2⟩ := (G5.get 0 rfl).three
  have kz2 := (G5.get 0 rfl).lt
  have F5 : Hid (Fr w _ [(w.heap.size + 1 + 1, 30, #[.int .i64 p, .int .i64 sq, .int .i64 stop]), (w.heap.size + 1, 26, #[.int .i64 b.brk, .int .i64 b.drag, .int .i64 b.drv]), (w.heap.size, 24, #[.string s, .slice A ps.length c])]) := Lib.hid G5
  clear hb5 G5 F4
  go_wp2_with fail
  go_ret
  exact ⟨rfl, F5.out.bl⟩

set_option maxHeartbeats 8000000 in
set_option maxRecDepth 100000 in
theorem be_bad3 (s : ByteArray) (hs : s.size ≤ maxLen) (ps : List Bp) (A : Option Addr) (c : Nat) (hg : HdOk ⟨A, c⟩) (hl : ps.length ≤ maxLen) (b : Bs) (p sq stop : Int) (hsh : shortB s ps = true) (h0 : bothE s ps b = 0) (h1 : stateE ps p sq = 0) (h2 : stopE ps stop = 0) (hb0 : stop < p) (w : World) (hA : Lies w w.heap.size A (ps.flatMap pc)) : Calls Try.prog 7 #[.agg #[.string s, .slice A ps.length c], .agg #[.int .i64 b.brk, .int .i64 b.drag, .int .i64 b.drv], .agg #[.int .i64 p, .int .i64 sq, .int .i64 stop]] w fun e w' => e = .returned (.bool true) ∧ Below w.heap.size w w' := by
  have F0 := Lib.hid (Fr.b3 w 24 #[.string s, .slice A ps.length c] 26 #[.int .i64 b.brk, .int .i64 b.drag, .int .i64 b.drv] 30 #[.int .i64 p, .int .i64 sq, .int .i64 stop])
  have HA := Lib.hid hA
  have HG := Lib.hid hg
  clear hA hg
  have HSH := Lib.hid hsh
  have hl14 : ps.length ≤ 14 := (short_iff.1 hsh).2
  clear hsh
  have hgt : stop < p := hb0
  have H0 := Lib.hid h0
  have H1 := Lib.hid h1
  have H2 := Lib.hid h2
  clear h0 h1 h2
  go_enter Try.func7, Try.ntmps7
  go_wp2_with fail
  refine (awake_any _).mono ?_
  rintro e w1 ⟨rfl, hb1⟩
  have G1 := Fr.call F0.out hb1
  obtain ⟨k0_0, k0_1, kf0, kg0⟩ := (G1.get 2 rfl).two
  have kz0 := (G1.get 2 rfl).lt
  obtain ⟨k1_0, k1_1, k1_2⟩ := (G1.get 1 rfl).three
  have kz1 := (G1.get 1 rfl).lt
  obtain ⟨k2_0, k2_1, k2_2⟩ := (G1.get 0 rfl).three
  have kz2 := (G1.get 0 rfl).lt
  have F1 : Hid (Fr w _ [(w.heap.size + 1 + 1, 30, #[.int .i64 p, .int .i64 sq, .int .i64 stop]), (w.heap.size + 1, 26, #[.int .i64 b.brk, .int .i64 b.drag, .int .i64 b.drv]), (w.heap.size, 24, #[.string s, .slice A ps.length c])]) := Lib.hid G1
  clear hb1 G1 F0
  go_wp2_with fail
  refine (Short_any s hs ps A c hl _).mono ?_
  rintro e w2 ⟨rfl, hb2⟩
  rw [HSH.out]
  clear k0_0 k0_1 kf0 kg0 kz0 k1_0 k1_1 k1_2 kz1 k2_0 k2_1 k2_2 kz2
  have G2 := Fr.call F1.out hb2
  obtain ⟨k0_0, k0_1, kf0, kg0⟩ := (G2.get 2 rfl).two
  have kz0 := (G2.get 2 rfl).lt
  obtain ⟨k1_0, k1_1, k1_2⟩ := (G2.get 1 rfl).three
  have kz1 := (G2.get 1 rfl).lt
  obtain ⟨k2_0, k2_1, k2_2⟩ := (G2.get 0 rfl).three
  have kz2 := (G2.get 0 rfl).lt
  have F2 : Hid (Fr w _ [(w.heap.size + 1 + 1, 30, #[.int .i64 p, .int .i64 sq, .int .i64 stop]), (w.heap.size + 1, 26, #[.int .i64 b.brk, .int .i64 b.drag, .int .i64 b.drv]), (w.heap.size, 24, #[.string s, .slice A ps.length c])]) := Lib.hid G2
  clear hb2 G2 F1
  go_wp2_with fail
  refine (BothErr_any s hs ps A c hl b _ (Fr.lies HA.out F2.out)).mono ?_
  rintro e w3 ⟨rfl, hb3⟩
  rw [H0.out]
  clear k0_0 k0_1 kf0 kg0 kz0 k1_0 k1_1 k1_2 kz1 k2_0 k2_1 k2_2 kz2
  have G3 := Fr.call F2.out hb3
  obtain ⟨k0_0, k0_1, kf0, kg0⟩ := (G3.get 2 rfl).two
  have kz0 := (G3.get 2 rfl).lt
  obtain ⟨k1_0, k1_1, k1_2⟩ := (G3.get 1 rfl).three
  have kz1 := (G3.get 1 rfl).lt
  obtain ⟨k2_0, k2_1, k2_2⟩ := (G3.get 0 rfl).three
  have kz2 := (G3.get 0 rfl).lt
  have F3 : Hid (Fr w _ [(w.heap.size + 1 + 1, 30, #[.int .i64 p, .int .i64 sq, .int .i64 stop]), (w.heap.size + 1, 26, #[.int .i64 b.brk, .int .i64 b.drag, .int .i64 b.drv]), (w.heap.size, 24, #[.string s, .slice A ps.length c])]) := Lib.hid G3
  clear hb3 G3 F2
  go_wp2_with fail
  refine (StateErr_any s ps A c (by omega) p sq _).mono ?_
  rintro e w4 ⟨rfl, hb4⟩
  rw [H1.out]
  clear k0_0 k0_1 kf0 kg0 kz0 k1_0 k1_1 k1_2 kz1 k2_0 k2_1 k2_2 kz2
  have G4 := Fr.call F3.out hb4
  obtain ⟨k0_0, k0_1, kf0, kg0⟩ := (G4.get 2 rfl).two
  have kz0 := (G4.get 2 rfl).lt
  obtain ⟨k1_0, k1_1, k1_2⟩ := (G4.get 1 rfl).three
  have kz1 := (G4.get 1 rfl).lt
  obtain ⟨k2_0, k2_1, k2_2⟩ := (G4.get 0 rfl).three
  have kz2 := (G4.get 0 rfl).lt
  have F4 : Hid (Fr w _ [(w.heap.size + 1 + 1, 30, #[.int .i64 p, .int .i64 sq, .int .i64 stop]), (w.heap.size + 1, 26, #[.int .i64 b.brk, .int .i64 b.drag, .int .i64 b.drv]), (w.heap.size, 24, #[.string s, .slice A ps.length c])]) := Lib.hid G4
  clear hb4 G4 F3
  go_wp2_with fail
  refine (StopErr_any s ps A c (by omega) stop _ (Fr.lies HA.out F4.out)).mono ?_
  rintro e w5 ⟨rfl, hb5⟩
  rw [H2.out]
  clear k0_0 k0_1 kf0 kg0 kz0 k1_0 k1_1 k1_2 kz1 k2_0 k2_1 k2_2 kz2
  have G5 := Fr.call F4.out hb5
  obtain ⟨k0_0, k0_1, kf0, kg0⟩ := (G5.get 2 rfl).two
  have kz0 := (G5.get 2 rfl).lt
  obtain ⟨k1_0, k1_1, k1_2⟩ := (G5.get 1 rfl).three
  have kz1 := (G5.get 1 rfl).lt
  obtain ⟨k2_0, k2_1, k2_2⟩ := (G5.get 0 rfl).three
  have kz2 := (G5.get 0 rfl).lt
  have F5 : Hid (Fr w _ [(w.heap.size + 1 + 1, 30, #[.int .i64 p, .int .i64 sq, .int .i64 stop]), (w.heap.size + 1, 26, #[.int .i64 b.brk, .int .i64 b.drag, .int .i64 b.drv]), (w.heap.size, 24, #[.string s, .slice A ps.length c])]) := Lib.hid G5
  clear hb5 G5 F4
  go_wp2_with fail
  go_ret
  exact ⟨rfl, F5.out.bl⟩

set_option maxHeartbeats 8000000 in
set_option maxRecDepth 100000 in
theorem be_ok (s : ByteArray) (hs : s.size ≤ maxLen) (ps : List Bp) (A : Option Addr) (c : Nat) (hg : HdOk ⟨A, c⟩) (hl : ps.length ≤ maxLen) (b : Bs) (p k : Nat) (sq : Int) (hsh : shortB s ps = true) (h0 : bothE s ps b = 0) (h1 : stateE ps (p : Int) sq = 0) (h2 : stopE ps (k : Int) = 0) (hpk : p ≤ k) (w : World) (hA : Lies w w.heap.size A (ps.flatMap pc)) : Calls Try.prog 7 #[.agg #[.string s, .slice A ps.length c], .agg #[.int .i64 b.brk, .int .i64 b.drag, .int .i64 b.drv], .agg #[.int .i64 (p : Int), .int .i64 sq, .int .i64 (k : Int)]] w fun e w' => e = .returned (.bool true) ∧ Below w.heap.size w w' := by
  obtain ⟨hok, hb⟩ := bothE_zero h0
  obtain ⟨k2, hk2, hk, hlv⟩ := stopE_ok h2
  obtain rfl : k = k2 := by omega
  clear hk2
  obtain ⟨p2, hp2, _, hq0, hq1⟩ := stateE_ok h1
  clear hp2
  have hq : 0 ≤ sq ∧ sq ≤ 20000000000 := ⟨hq0, hq1⟩
  obtain ⟨a, rfl⟩ := ps_some hA hok.n0
  have hsb : sE b = 0 := sE_of hb
  obtain ⟨nb, hnb⟩ : ∃ nb, min 3000 (b.brk + 100) = nb := ⟨_, rfl⟩
  obtain ⟨nd, hnd⟩ : ∃ nd, min 500 (min b.brk (b.drag + 10)) = nd := ⟨_, rfl⟩
  have hb2 : OkS ⟨nb, b.drag, b.drv⟩ := by rw [← hnb]; exact bet_ok hb
  have hb3 : OkS ⟨b.brk, nd, b.drv⟩ := by rw [← hnd]; exact slo_ok hb
  have hle2 : b.brk ≤ nb := by rw [← hnb]; exact bet_le hb
  have hle3 : b.drag ≤ nd := by rw [← hnd]; exact slo_le hb
  obtain ⟨N2, hN2⟩ : ∃ N2, N2 = k + 2 := ⟨_, rfl⟩
  obtain ⟨N1, hN1⟩ : ∃ N1, N1 = k + 1 := ⟨_, rfl⟩
  have HM2 := Lib.hid (fun i (hi : i < N2) => crv_mono' hok.each hle2 k i (by omega))
  have HM1 := Lib.hid (fun i (hi : i < N1) => lst_mono' hok.each hle3 k i (by omega))
  obtain ⟨u, hu⟩ : ∃ u, decide (runE ps b k p sq = 0) = u := ⟨_, rfl⟩
  obtain ⟨v, hv⟩ : ∃ v, decide (runE ps ⟨nb, b.drag, b.drv⟩ k p sq = 0) = v := ⟨_, rfl⟩
  have HUV : Hid (u = true → v = true) := Lib.hid (fun h => by rw [← hv]; rw [← hu] at h; exact decide_eq_true (reach_mono hok.each (b' := ⟨nb, b.drag, b.drv⟩) hle2 rfl hpk (of_decide_eq_true h)))
  have HC1 : Hid (∀ (A' : Option Addr) (c' : Nat) (W : World), Lies W W.heap.size A' (ps.flatMap pc) → Calls Try.prog 30 #[.agg #[.string s, .slice A' ps.length c'], .agg #[.int .i64 b.brk, .int .i64 b.drag, .int .i64 b.drv], .int .i64 (k : Int)] W fun e w' => ∃ g : Hd, e = .returned (.tuple #[.slice g.A (N2 : Nat) g.c, .int .i64 0]) ∧ Lies w' w'.heap.size g.A (ic (listF N2 (crvV ps b.brk k))) ∧ Below W.heap.size W w') := Lib.hid (fun A' c' W h => by obtain ⟨a', rfl⟩ := ps_some h hok.n0; subst hN2; exact (CurveOf_ok s hs ps a' c' (by have := hok.n12; omega) b (k : Int) hok hb hsb h2 W h).mono fun _ _ h => rowE_ok h)
  have HC2 : Hid (∀ (A' : Option Addr) (c' : Nat) (W : World), Lies W W.heap.size A' (ps.flatMap pc) → Calls Try.prog 30 #[.agg #[.string s, .slice A' ps.length c'], .agg #[.int .i64 nb, .int .i64 b.drag, .int .i64 b.drv], .int .i64 (k : Int)] W fun e w' => ∃ g : Hd, e = .returned (.tuple #[.slice g.A (N2 : Nat) g.c, .int .i64 0]) ∧ Lies w' w'.heap.size g.A (ic (listF N2 (crvV ps nb k))) ∧ Below W.heap.size W w') := Lib.hid (fun A' c' W h => by obtain ⟨a', rfl⟩ := ps_some h hok.n0; subst hN2; exact (CurveOf_ok s hs ps a' c' (by have := hok.n12; omega) ⟨nb, b.drag, b.drv⟩ (k : Int) hok hb2 (sE_of hb2) h2 W h).mono fun _ _ h => rowE_ok h)
  have HC3 : Hid (∀ (A' : Option Addr) (c' : Nat) (W : World), Lies W W.heap.size A' (ps.flatMap pc) → Calls Try.prog 31 #[.agg #[.string s, .slice A' ps.length c'], .agg #[.int .i64 b.brk, .int .i64 b.drag, .int .i64 b.drv], .int .i64 (k : Int)] W fun e w' => ∃ g : Hd, e = .returned (.tuple #[.slice g.A (N1 : Nat) g.c, .int .i64 0]) ∧ Lies w' w'.heap.size g.A (ic (listF N1 (lstV ps b.drag k))) ∧ Below W.heap.size W w') := Lib.hid (fun A' c' W h => by obtain ⟨a', rfl⟩ := ps_some h hok.n0; subst hN1; exact (LeastOf_ok s hs ps a' c' (by have := hok.n12; omega) b (k : Int) hok hb hsb h2 W h).mono fun _ _ h => rowE_ok h)
  have HC4 : Hid (∀ (A' : Option Addr) (c' : Nat) (W : World), Lies W W.heap.size A' (ps.flatMap pc) → Calls Try.prog 31 #[.agg #[.string s, .slice A' ps.length c'], .agg #[.int .i64 b.brk, .int .i64 nd, .int .i64 b.drv], .int .i64 (k : Int)] W fun e w' => ∃ g : Hd, e = .returned (.tuple #[.slice g.A (N1 : Nat) g.c, .int .i64 0]) ∧ Lies w' w'.heap.size g.A (ic (listF N1 (lstV ps nd k))) ∧ Below W.heap.size W w') := Lib.hid (fun A' c' W h => by obtain ⟨a', rfl⟩ := ps_some h hok.n0; subst hN1; exact (LeastOf_ok s hs ps a' c' (by have := hok.n12; omega) ⟨b.brk, nd, b.drv⟩ (k : Int) hok hb3 (sE_of hb3) h2 W h).mono fun _ _ h => rowE_ok h)
  have HR1 : Hid (∀ (A' : Option Addr) (c' : Nat) (W : World), Lies W W.heap.size A' (ps.flatMap pc) → Calls Try.prog 18 #[.agg #[.string s, .slice A' ps.length c'], .agg #[.int .i64 b.brk, .int .i64 b.drag, .int .i64 b.drv], .agg #[.int .i64 (p : Int), .int .i64 sq], .int .i64 (k : Int)] W fun e w' => e = .returned (.tuple #[.bool u, .int .i64 0]) ∧ Below W.heap.size W w') := Lib.hid (fun A' c' W h => by obtain ⟨a', rfl⟩ := ps_some h hok.n0; have := Reaches_ok s hs ps a' c' (by have := hok.n12; omega) b hok hb hsb k p hk hlv hpk sq hq W h; rw [hu] at this; exact this)
  have HR2 : Hid (∀ (A' : Option Addr) (c' : Nat) (W : World), Lies W W.heap.size A' (ps.flatMap pc) → Calls Try.prog 18 #[.agg #[.string s, .slice A' ps.length c'], .agg #[.int .i64 nb, .int .i64 b.drag, .int .i64 b.drv], .agg #[.int .i64 (p : Int), .int .i64 sq], .int .i64 (k : Int)] W fun e w' => e = .returned (.tuple #[.bool v, .int .i64 0]) ∧ Below W.heap.size W w') := Lib.hid (fun A' c' W h => by obtain ⟨a', rfl⟩ := ps_some h hok.n0; have := Reaches_ok s hs ps a' c' (by have := hok.n12; omega) ⟨nb, b.drag, b.drv⟩ hok hb2 (sE_of hb2) k p hk hlv hpk sq hq W h; rw [hv] at this; exact this)
  have F0 := Lib.hid (Fr.b3 w 24 #[.string s, .slice (some a) ps.length c] 26 #[.int .i64 b.brk, .int .i64 b.drag, .int .i64 b.drv] 30 #[.int .i64 (p : Int), .int .i64 sq, .int .i64 (k : Int)])
  have HA := Lib.hid hA
  have HG := Lib.hid hg
  clear hA hg
  have HSH := Lib.hid hsh
  have hl14 : ps.length ≤ 14 := (short_iff.1 hsh).2
  clear hsh
  have H0 := Lib.hid h0
  have H1 := Lib.hid h1
  have H2 := Lib.hid h2
  have hpk4 : decide (k < p) = false := decide_eq_false (by omega)
  have hpk5 : ¬ (k < p) := by omega
  have h12 := hok.n12
  have hN14 : N2 ≤ 14 := by omega
  have hN13 : N1 ≤ 13 := by omega
  have hw1 := IntWalk.i64_in (b.brk + 100) (by have := hb.b0; have := hb.b1; omega)
  have hw2 := IntWalk.i64_in (b.drag + 10) (by have := hb.d0; have := hb.d1; omega)
  have HNB := Lib.hid hnb
  have HND := Lib.hid hnd
  clear hok hb hsb h0 h1 h2 hlv hk hq hq0 hq1 hb2 hb3 hle2 hle3 hu hv hN1 hN2 hnb hnd
  go_enter Try.func7, Try.ntmps7
  go_wp2_with fail
  refine (awake_any _).mono ?_
  rintro e w1 ⟨rfl, hb1⟩
  have G1 := Fr.call F0.out hb1
  obtain ⟨k0_0, k0_1, kf0, kg0⟩ := (G1.get 2 rfl).two
  have kz0 := (G1.get 2 rfl).lt
  obtain ⟨k1_0, k1_1, k1_2⟩ := (G1.get 1 rfl).three
  have kz1 := (G1.get 1 rfl).lt
  obtain ⟨k2_0, k2_1, k2_2⟩ := (G1.get 0 rfl).three
  have kz2 := (G1.get 0 rfl).lt
  have F1 : Hid (Fr w _ [(w.heap.size + 1 + 1, 30, #[.int .i64 (p : Int), .int .i64 sq, .int .i64 (k : Int)]), (w.heap.size + 1, 26, #[.int .i64 b.brk, .int .i64 b.drag, .int .i64 b.drv]), (w.heap.size, 24, #[.string s, .slice (some a) ps.length c])]) := Lib.hid G1
  clear hb1 G1 F0
  go_wp2_with fail
  refine (Short_any s hs ps (some a) c hl _).mono ?_
  rintro e w2 ⟨rfl, hb2⟩
  rw [HSH.out]
  clear k0_0 k0_1 kf0 kg0 kz0 k1_0 k1_1 k1_2 kz1 k2_0 k2_1 k2_2 kz2
  have G2 := Fr.call F1.out hb2
  obtain ⟨k0_0, k0_1, kf0, kg0⟩ := (G2.get 2 rfl).two
  have kz0 := (G2.get 2 rfl).lt
  obtain ⟨k1_0, k1_1, k1_2⟩ := (G2.get 1 rfl).three
  have kz1 := (G2.get 1 rfl).lt
  obtain ⟨k2_0, k2_1, k2_2⟩ := (G2.get 0 rfl).three
  have kz2 := (G2.get 0 rfl).lt
  have F2 : Hid (Fr w _ [(w.heap.size + 1 + 1, 30, #[.int .i64 (p : Int), .int .i64 sq, .int .i64 (k : Int)]), (w.heap.size + 1, 26, #[.int .i64 b.brk, .int .i64 b.drag, .int .i64 b.drv]), (w.heap.size, 24, #[.string s, .slice (some a) ps.length c])]) := Lib.hid G2
  clear hb2 G2 F1
  go_wp2_with fail
  refine (BothErr_any s hs ps (some a) c hl b _ (Fr.lies HA.out F2.out)).mono ?_
  rintro e w3 ⟨rfl, hb3⟩
  rw [H0.out]
  clear k0_0 k0_1 kf0 kg0 kz0 k1_0 k1_1 k1_2 kz1 k2_0 k2_1 k2_2 kz2
  have G3 := Fr.call F2.out hb3
  obtain ⟨k0_0, k0_1, kf0, kg0⟩ := (G3.get 2 rfl).two
  have kz0 := (G3.get 2 rfl).lt
  obtain ⟨k1_0, k1_1, k1_2⟩ := (G3.get 1 rfl).three
  have kz1 := (G3.get 1 rfl).lt
  obtain ⟨k2_0, k2_1, k2_2⟩ := (G3.get 0 rfl).three
  have kz2 := (G3.get 0 rfl).lt
  have F3 : Hid (Fr w _ [(w.heap.size + 1 + 1, 30, #[.int .i64 (p : Int), .int .i64 sq, .int .i64 (k : Int)]), (w.heap.size + 1, 26, #[.int .i64 b.brk, .int .i64 b.drag, .int .i64 b.drv]), (w.heap.size, 24, #[.string s, .slice (some a) ps.length c])]) := Lib.hid G3
  clear hb3 G3 F2
  go_wp2_with fail
  refine (StateErr_any s ps (some a) c (by omega) (p : Int) sq _).mono ?_
  rintro e w4 ⟨rfl, hb4⟩
  rw [H1.out]
  clear k0_0 k0_1 kf0 kg0 kz0 k1_0 k1_1 k1_2 kz1 k2_0 k2_1 k2_2 kz2
  have G4 := Fr.call F3.out hb4
  obtain ⟨k0_0, k0_1, kf0, kg0⟩ := (G4.get 2 rfl).two
  have kz0 := (G4.get 2 rfl).lt
  obtain ⟨k1_0, k1_1, k1_2⟩ := (G4.get 1 rfl).three
  have kz1 := (G4.get 1 rfl).lt
  obtain ⟨k2_0, k2_1, k2_2⟩ := (G4.get 0 rfl).three
  have kz2 := (G4.get 0 rfl).lt
  have F4 : Hid (Fr w _ [(w.heap.size + 1 + 1, 30, #[.int .i64 (p : Int), .int .i64 sq, .int .i64 (k : Int)]), (w.heap.size + 1, 26, #[.int .i64 b.brk, .int .i64 b.drag, .int .i64 b.drv]), (w.heap.size, 24, #[.string s, .slice (some a) ps.length c])]) := Lib.hid G4
  clear hb4 G4 F3
  go_wp2_with fail
  refine (StopErr_any s ps (some a) c (by omega) (k : Int) _ (Fr.lies HA.out F4.out)).mono ?_
  rintro e w5 ⟨rfl, hb5⟩
  rw [H2.out]
  clear k0_0 k0_1 kf0 kg0 kz0 k1_0 k1_1 k1_2 kz1 k2_0 k2_1 k2_2 kz2
  have G5 := Fr.call F4.out hb5
  obtain ⟨k0_0, k0_1, kf0, kg0⟩ := (G5.get 2 rfl).two
  have kz0 := (G5.get 2 rfl).lt
  obtain ⟨k1_0, k1_1, k1_2⟩ := (G5.get 1 rfl).three
  have kz1 := (G5.get 1 rfl).lt
  obtain ⟨k2_0, k2_1, k2_2⟩ := (G5.get 0 rfl).three
  have kz2 := (G5.get 0 rfl).lt
  have F5 : Hid (Fr w _ [(w.heap.size + 1 + 1, 30, #[.int .i64 (p : Int), .int .i64 sq, .int .i64 (k : Int)]), (w.heap.size + 1, 26, #[.int .i64 b.brk, .int .i64 b.drag, .int .i64 b.drv]), (w.heap.size, 24, #[.string s, .slice (some a) ps.length c])]) := Lib.hid G5
  clear hb5 G5 F4
  go_upto_region 5 with fail
  go_cut [7, 8] from 56 to 57 (fun pv qv W => ∃ g h : Nat, pv = .pointer (some ⟨g, 0, none⟩) ∧ qv = .pointer (some ⟨h, 0, none⟩) ∧ (w.heap.size + 3 ≤ g ∧ w.heap.size + 3 ≤ h ∧ g ≠ h) ∧ Fr w W ((h, 26, #[.int .i64 b.brk, .int .i64 b.drag, .int .i64 b.drv]) :: (g, 26, #[.int .i64 b.brk, .int .i64 b.drag, .int .i64 b.drv]) :: [(w.heap.size + 1 + 1, 30, #[.int .i64 (p : Int), .int .i64 sq, .int .i64 (k : Int)]), (w.heap.size + 1, 26, #[.int .i64 b.brk, .int .i64 b.drag, .int .i64 b.drv]), (w.heap.size, 24, #[.string s, .slice (some a) ps.length c])]))
  case first =>
    have hz0 := F5.out.bl.size
    go_region
    all_goals
      go_wp2_with fail
      go_meet
      refine ⟨_, _, rfl, rfl, ⟨by omega, by omega, by omega⟩, ?_⟩
      first
        | exact (by have h := (F5.out.box 26 #[.int .i64 b.brk, .int .i64 b.drag, .int .i64 b.drv]).box 26 #[.int .i64 b.brk, .int .i64 b.drag, .int .i64 b.drv]; rw [World.size_alloc] at h; exact h.drew)
        | exact (by have h := (F5.out.box 26 #[.int .i64 b.brk, .int .i64 b.drag, .int .i64 b.drv]).box 26 #[.int .i64 b.brk, .int .i64 b.drag, .int .i64 b.drv]; rw [World.size_alloc] at h; exact h.swap.drew)
  case rest =>
    obtain ⟨wy5, rfl⟩ : ∃ W, W = wc := ⟨_, rfl⟩
    obtain ⟨gb, gd, rfl, rfl, ⟨hg1, hg2, hg3⟩, hx⟩ := hcut
    have HX := Lib.hid hx
    clear hx F5 k0_0 k0_1 kf0 kg0 kz0 k1_0 k1_1 k1_2 kz1 k2_0 k2_1 k2_2 kz2
    have HB5 := Lib.hid (HX.out.get 3 rfl)
    obtain ⟨k1_0, k1_1, k1_2⟩ := HB5.out.three
    have kb := (HX.out.get 1 rfl).three
    have kd := (HX.out.get 0 rfl).three
    have kbz := (HX.out.get 1 rfl).lt
    have kdz := (HX.out.get 0 rfl).lt
    have kf1 := (HX.out.get 1 rfl).frozen 0
    have kf2 := (HX.out.get 0 rfl).frozen 1
    have HS1 : Hid (Fr w ((wy5.setCell ⟨gb, 0, none⟩ (.int .i64 nb)).setCell ⟨gd, 1, none⟩ (.int .i64 nd)) ((gd, 26, #[.int .i64 b.brk, .int .i64 nd, .int .i64 b.drv]) :: (gb, 26, #[.int .i64 nb, .int .i64 b.drag, .int .i64 b.drv]) :: [(w.heap.size + 1 + 1, 30, #[.int .i64 (p : Int), .int .i64 sq, .int .i64 (k : Int)]), (w.heap.size + 1, 26, #[.int .i64 b.brk, .int .i64 b.drag, .int .i64 b.drv]), (w.heap.size, 24, #[.string s, .slice (some a) ps.length c])])) := Lib.hid (by
      have h1 := (HX.out.swap.put 0 (.int .i64 nb) (by omega) (by simp; omega)).swap
      exact h1.put 1 (.int .i64 nd) (by omega) (by simp; omega))
    have HS2 : Hid (Fr w ((wy5.setCell ⟨gd, 1, none⟩ (.int .i64 nd)).setCell ⟨gb, 0, none⟩ (.int .i64 nb)) ((gd, 26, #[.int .i64 b.brk, .int .i64 nd, .int .i64 b.drv]) :: (gb, 26, #[.int .i64 nb, .int .i64 b.drag, .int .i64 b.drv]) :: [(w.heap.size + 1 + 1, 30, #[.int .i64 (p : Int), .int .i64 sq, .int .i64 (k : Int)]), (w.heap.size + 1, 26, #[.int .i64 b.brk, .int .i64 b.drag, .int .i64 b.drv]), (w.heap.size, 24, #[.string s, .slice (some a) ps.length c])])) := Lib.hid (by
      have h1 := (HX.out.put 1 (.int .i64 nd) (by omega) (by simp; omega)).swap
      exact (h1.put 0 (.int .i64 nb) (by omega) (by simp; omega)).swap)
    go_upto_region 6 with fail
    go_cut [] from 58 to 69 (fun W => Fr w W ((gd, 26, #[.int .i64 b.brk, .int .i64 nd, .int .i64 b.drv]) :: (gb, 26, #[.int .i64 nb, .int .i64 b.drag, .int .i64 b.drv]) :: [(w.heap.size + 1 + 1, 30, #[.int .i64 (p : Int), .int .i64 sq, .int .i64 (k : Int)]), (w.heap.size + 1, 26, #[.int .i64 b.brk, .int .i64 b.drag, .int .i64 b.drv]), (w.heap.size, 24, #[.string s, .slice (some a) ps.length c])]))
    case first =>
      go_region
      all_goals
        go_wp2_with fail
        all_goals
          go_meet
          have e1 := HNB.out
          have e2 := HND.out
          first
            | exact (HS1.out.vals2 (cong64 (by (repeat' split) <;> omega)) (cong64 (by (repeat' split) <;> omega))).drew
            | exact (HS2.out.vals2 (cong64 (by (repeat' split) <;> omega)) (cong64 (by (repeat' split) <;> omega))).drew
            | (trace_state; exact STOP)
    case rest =>
      obtain ⟨wy6, rfl⟩ : ∃ W, W = wc := ⟨_, rfl⟩
      have FB := Lib.hid hcut
      clear hcut HX HB5 k1_0 k1_1 k1_2 kb kd kbz kdz kf1 kf2 HS1 HS2 HNB HND hw1 hw2
      obtain ⟨k0_0, k0_1, kf0, kg0⟩ := (FB.out.get 4 rfl).two
      have kz0 := (FB.out.get 4 rfl).lt
      obtain ⟨k1_0, k1_1, k1_2⟩ := (FB.out.get 3 rfl).three
      have kz1 := (FB.out.get 3 rfl).lt
      obtain ⟨k2_0, k2_1, k2_2⟩ := (FB.out.get 2 rfl).three
      have kz2 := (FB.out.get 2 rfl).lt
      obtain ⟨k3_0, k3_1, k3_2⟩ := (FB.out.get 1 rfl).three
      have kz3 := (FB.out.get 1 rfl).lt
      obtain ⟨k4_0, k4_1, k4_2⟩ := (FB.out.get 0 rfl).three
      have kz4 := (FB.out.get 0 rfl).lt
      go_upto_region 7 with fail
      clear k0_0 k0_1 kf0 kg0 kz0 k1_0 k1_1 k1_2 kz1 k2_0 k2_1 k2_2 kz2 k3_0 k3_1 k3_2 kz3 k4_0 k4_1 k4_2 kz4
      go_cut [9, 10] from 70 to 78 (fun r e W => (∃ g : Hd, r = .slice g.A (N2 : Nat) g.c ∧ e = .int .i64 0 ∧ Lies W W.heap.size g.A (ic (listF N2 (crvV ps b.brk k)))) ∧ Fr wy6 W [])
      case first =>
        have HALL : Hid (∀ W, Fr wy6 W [] → Fr wy6 W [] ∧ W.cell? ⟨w.heap.size, 0, none⟩ = some (.string s) ∧ W.cell? ⟨w.heap.size, 1, none⟩ = some (.slice (some a) ps.length c) ∧ W.cell? ⟨w.heap.size + 1, 0, none⟩ = some (.int .i64 b.brk) ∧ W.cell? ⟨w.heap.size + 1, 1, none⟩ = some (.int .i64 b.drag) ∧ W.cell? ⟨w.heap.size + 1, 2, none⟩ = some (.int .i64 b.drv) ∧ W.cell? ⟨w.heap.size + 1 + 1, 0, none⟩ = some (.int .i64 (p : Int)) ∧ W.cell? ⟨w.heap.size + 1 + 1, 1, none⟩ = some (.int .i64 sq) ∧ W.cell? ⟨w.heap.size + 1 + 1, 2, none⟩ = some (.int .i64 (k : Int)) ∧ W.cell? ⟨gb, 0, none⟩ = some (.int .i64 nb) ∧ W.cell? ⟨gb, 1, none⟩ = some (.int .i64 b.drag) ∧ W.cell? ⟨gb, 2, none⟩ = some (.int .i64 b.drv) ∧ W.cell? ⟨gd, 0, none⟩ = some (.int .i64 b.brk) ∧ W.cell? ⟨gd, 1, none⟩ = some (.int .i64 nd) ∧ W.cell? ⟨gd, 2, none⟩ = some (.int .i64 b.drv)) := Lib.hid (fun W hW => ⟨hW, ((FB.out.get 4 rfl).call hW.bl).cell 0, ((FB.out.get 4 rfl).call hW.bl).cell 1, ((FB.out.get 3 rfl).call hW.bl).cell 0, ((FB.out.get 3 rfl).call hW.bl).cell 1, ((FB.out.get 3 rfl).call hW.bl).cell 2, ((FB.out.get 2 rfl).call hW.bl).cell 0, ((FB.out.get 2 rfl).call hW.bl).cell 1, ((FB.out.get 2 rfl).call hW.bl).cell 2, ((FB.out.get 1 rfl).call hW.bl).cell 0, ((FB.out.get 1 rfl).call hW.bl).cell 1, ((FB.out.get 1 rfl).call hW.bl).cell 2, ((FB.out.get 0 rfl).call hW.bl).cell 0, ((FB.out.get 0 rfl).call hW.bl).cell 1, ((FB.out.get 0 rfl).call hW.bl).cell 2⟩)
        have HAC := Lib.hid (Fr.lies HA.out FB.out)
        have F10 : Fr wy6 _ [] := Fr.nil wy6
        go_region_held3 (fun W => Fr wy6 W [] ∧ W.cell? ⟨w.heap.size, 0, none⟩ = some (.string s) ∧ W.cell? ⟨w.heap.size, 1, none⟩ = some (.slice (some a) ps.length c) ∧ W.cell? ⟨w.heap.size + 1, 0, none⟩ = some (.int .i64 b.brk) ∧ W.cell? ⟨w.heap.size + 1, 1, none⟩ = some (.int .i64 b.drag) ∧ W.cell? ⟨w.heap.size + 1, 2, none⟩ = some (.int .i64 b.drv) ∧ W.cell? ⟨w.heap.size + 1 + 1, 0, none⟩ = some (.int .i64 (p : Int)) ∧ W.cell? ⟨w.heap.size + 1 + 1, 1, none⟩ = some (.int .i64 sq) ∧ W.cell? ⟨w.heap.size + 1 + 1, 2, none⟩ = some (.int .i64 (k : Int)) ∧ W.cell? ⟨gb, 0, none⟩ = some (.int .i64 nb) ∧ W.cell? ⟨gb, 1, none⟩ = some (.int .i64 b.drag) ∧ W.cell? ⟨gb, 2, none⟩ = some (.int .i64 b.drv) ∧ W.cell? ⟨gd, 0, none⟩ = some (.int .i64 b.brk) ∧ W.cell? ⟨gd, 1, none⟩ = some (.int .i64 nd) ∧ W.cell? ⟨gd, 2, none⟩ = some (.int .i64 b.drv))
            ((go_split_ands; refine HALL.out _ ?_; (first | assumption | (repeat (first | assumption | refine Fr.new ?_ _ | refine Fr.drew ?_ | (refine Fr.set ?_ (by first | exact Nat.le_refl _ | omega | (simp; done) | (simp; omega)) (by first | (simp; done) | (simp; omega)) _))); done)))
            ((first
              | (go_at_call 14; go_split_ands; (with_reducible refine (Copy_any s ps ⟨(some a), c⟩ (by omega) HG.out _ (Fr.lies HAC.out (by assumption))).mono ?_); rintro e w1 ⟨g2, rfl, hl2, hk2, hb1⟩; have HL2 := Lib.hid hl2; have F4 := Fr.call (by assumption) hb1; clear hb1 hl2 hk2)
              | (go_at_call 30; go_split_ands; (with_reducible refine (HC1.out _ _ _ HL2.out).mono ?_); rintro e w1 ⟨g3, rfl, hl3, hb1⟩; have HL3 := Lib.hid hl3; have F5 := Fr.call (by assumption) hb1; clear hb1 hl3)
              | fail "arm"))
        all_goals
          go_split_ands
          go_wp2_with fail
          go_meet
          exact ⟨⟨g3, rfl, rfl, HL3.out⟩, by assumption⟩
      case rest =>
        obtain ⟨wx1, rfl⟩ : ∃ W, W = wc := ⟨_, rfl⟩
        obtain ⟨⟨gx7, rfl, rfl, hy7⟩, hx⟩ := hcut
        have FC1 := Lib.hid (FB.out.call hx.bl)
        clear hx FB
        obtain ⟨k0_0, k0_1, kf0, kg0⟩ := (FC1.out.get 4 rfl).two
        have kz0 := (FC1.out.get 4 rfl).lt
        obtain ⟨k1_0, k1_1, k1_2⟩ := (FC1.out.get 3 rfl).three
        have kz1 := (FC1.out.get 3 rfl).lt
        obtain ⟨k2_0, k2_1, k2_2⟩ := (FC1.out.get 2 rfl).three
        have kz2 := (FC1.out.get 2 rfl).lt
        obtain ⟨k3_0, k3_1, k3_2⟩ := (FC1.out.get 1 rfl).three
        have kz3 := (FC1.out.get 1 rfl).lt
        obtain ⟨k4_0, k4_1, k4_2⟩ := (FC1.out.get 0 rfl).three
        have kz4 := (FC1.out.get 0 rfl).lt
        have Y7 := Lib.hid hy7
        clear hy7
        go_upto_region 8 with fail
        clear k0_0 k0_1 kf0 kg0 kz0 k1_0 k1_1 k1_2 kz1 k2_0 k2_1 k2_2 kz2 k3_0 k3_1 k3_2 kz3 k4_0 k4_1 k4_2 kz4
        go_cut [11, 12] from 79 to 87 (fun r e W => (∃ g : Hd, r = .slice g.A (N2 : Nat) g.c ∧ e = .int .i64 0 ∧ Lies W W.heap.size g.A (ic (listF N2 (crvV ps nb k)))) ∧ Fr wx1 W [])
        case first =>
          have HALL : Hid (∀ W, Fr wx1 W [] → Fr wx1 W [] ∧ W.cell? ⟨w.heap.size, 0, none⟩ = some (.string s) ∧ W.cell? ⟨w.heap.size, 1, none⟩ = some (.slice (some a) ps.length c) ∧ W.cell? ⟨w.heap.size + 1, 0, none⟩ = some (.int .i64 b.brk) ∧ W.cell? ⟨w.heap.size + 1, 1, none⟩ = some (.int .i64 b.drag) ∧ W.cell? ⟨w.heap.size + 1, 2, none⟩ = some (.int .i64 b.drv) ∧ W.cell? ⟨w.heap.size + 1 + 1, 0, none⟩ = some (.int .i64 (p : Int)) ∧ W.cell? ⟨w.heap.size + 1 + 1, 1, none⟩ = some (.int .i64 sq) ∧ W.cell? ⟨w.heap.size + 1 + 1, 2, none⟩ = some (.int .i64 (k : Int)) ∧ W.cell? ⟨gb, 0, none⟩ = some (.int .i64 nb) ∧ W.cell? ⟨gb, 1, none⟩ = some (.int .i64 b.drag) ∧ W.cell? ⟨gb, 2, none⟩ = some (.int .i64 b.drv) ∧ W.cell? ⟨gd, 0, none⟩ = some (.int .i64 b.brk) ∧ W.cell? ⟨gd, 1, none⟩ = some (.int .i64 nd) ∧ W.cell? ⟨gd, 2, none⟩ = some (.int .i64 b.drv)) := Lib.hid (fun W hW => ⟨hW, ((FC1.out.get 4 rfl).call hW.bl).cell 0, ((FC1.out.get 4 rfl).call hW.bl).cell 1, ((FC1.out.get 3 rfl).call hW.bl).cell 0, ((FC1.out.get 3 rfl).call hW.bl).cell 1, ((FC1.out.get 3 rfl).call hW.bl).cell 2, ((FC1.out.get 2 rfl).call hW.bl).cell 0, ((FC1.out.get 2 rfl).call hW.bl).cell 1, ((FC1.out.get 2 rfl).call hW.bl).cell 2, ((FC1.out.get 1 rfl).call hW.bl).cell 0, ((FC1.out.get 1 rfl).call hW.bl).cell 1, ((FC1.out.get 1 rfl).call hW.bl).cell 2, ((FC1.out.get 0 rfl).call hW.bl).cell 0, ((FC1.out.get 0 rfl).call hW.bl).cell 1, ((FC1.out.get 0 rfl).call hW.bl).cell 2⟩)
          have HAC := Lib.hid (Fr.lies HA.out FC1.out)
          have F10 : Fr wx1 _ [] := Fr.nil wx1
          go_region_held3 (fun W => Fr wx1 W [] ∧ W.cell? ⟨w.heap.size, 0, none⟩ = some (.string s) ∧ W.cell? ⟨w.heap.size, 1, none⟩ = some (.slice (some a) ps.length c) ∧ W.cell? ⟨w.heap.size + 1, 0, none⟩ = some (.int .i64 b.brk) ∧ W.cell? ⟨w.heap.size + 1, 1, none⟩ = some (.int .i64 b.drag) ∧ W.cell? ⟨w.heap.size + 1, 2, none⟩ = some (.int .i64 b.drv) ∧ W.cell? ⟨w.heap.size + 1 + 1, 0, none⟩ = some (.int .i64 (p : Int)) ∧ W.cell? ⟨w.heap.size + 1 + 1, 1, none⟩ = some (.int .i64 sq) ∧ W.cell? ⟨w.heap.size + 1 + 1, 2, none⟩ = some (.int .i64 (k : Int)) ∧ W.cell? ⟨gb, 0, none⟩ = some (.int .i64 nb) ∧ W.cell? ⟨gb, 1, none⟩ = some (.int .i64 b.drag) ∧ W.cell? ⟨gb, 2, none⟩ = some (.int .i64 b.drv) ∧ W.cell? ⟨gd, 0, none⟩ = some (.int .i64 b.brk) ∧ W.cell? ⟨gd, 1, none⟩ = some (.int .i64 nd) ∧ W.cell? ⟨gd, 2, none⟩ = some (.int .i64 b.drv))
              ((go_split_ands; refine HALL.out _ ?_; (first | assumption | (repeat (first | assumption | refine Fr.new ?_ _ | refine Fr.drew ?_ | (refine Fr.set ?_ (by first | exact Nat.le_refl _ | omega | (simp; done) | (simp; omega)) (by first | (simp; done) | (simp; omega)) _))); done)))
              ((first
                | (go_at_call 14; go_split_ands; (with_reducible refine (Copy_any s ps ⟨(some a), c⟩ (by omega) HG.out _ (Fr.lies HAC.out (by assumption))).mono ?_); rintro e w1 ⟨g2, rfl, hl2, hk2, hb1⟩; have HL2 := Lib.hid hl2; have F4 := Fr.call (by assumption) hb1; clear hb1 hl2 hk2)
                | (go_at_call 30; go_split_ands; (with_reducible refine (HC2.out _ _ _ HL2.out).mono ?_); rintro e w1 ⟨g3, rfl, hl3, hb1⟩; have HL3 := Lib.hid hl3; have F5 := Fr.call (by assumption) hb1; clear hb1 hl3)
                | fail "arm"))
          all_goals
            go_split_ands
            go_wp2_with fail
            go_meet
            exact ⟨⟨g3, rfl, rfl, HL3.out⟩, by assumption⟩
        case rest =>
          obtain ⟨wx2, rfl⟩ : ∃ W, W = wc := ⟨_, rfl⟩
          obtain ⟨⟨gx8, rfl, rfl, hy8⟩, hx⟩ := hcut
          have FC2 := Lib.hid (FC1.out.call hx.bl)
          have Y7 := Lib.hid (Lies.call Y7.out hx.bl)
          clear hx FC1
          obtain ⟨k0_0, k0_1, kf0, kg0⟩ := (FC2.out.get 4 rfl).two
          have kz0 := (FC2.out.get 4 rfl).lt
          obtain ⟨k1_0, k1_1, k1_2⟩ := (FC2.out.get 3 rfl).three
          have kz1 := (FC2.out.get 3 rfl).lt
          obtain ⟨k2_0, k2_1, k2_2⟩ := (FC2.out.get 2 rfl).three
          have kz2 := (FC2.out.get 2 rfl).lt
          obtain ⟨k3_0, k3_1, k3_2⟩ := (FC2.out.get 1 rfl).three
          have kz3 := (FC2.out.get 1 rfl).lt
          obtain ⟨k4_0, k4_1, k4_2⟩ := (FC2.out.get 0 rfl).three
          have kz4 := (FC2.out.get 0 rfl).lt
          have Y8 := Lib.hid hy8
          clear hy8
          go_upto_region 9 with fail
          clear k0_0 k0_1 kf0 kg0 kz0 k1_0 k1_1 k1_2 kz1 k2_0 k2_1 k2_2 kz2 k3_0 k3_1 k3_2 kz3 k4_0 k4_1 k4_2 kz4
          go_cut [13, 14] from 88 to 96 (fun r e W => (∃ g : Hd, r = .slice g.A (N1 : Nat) g.c ∧ e = .int .i64 0 ∧ Lies W W.heap.size g.A (ic (listF N1 (lstV ps b.drag k)))) ∧ Fr wx2 W [])
          case first =>
            have HALL : Hid (∀ W, Fr wx2 W [] → Fr wx2 W [] ∧ W.cell? ⟨w.heap.size, 0, none⟩ = some (.string s) ∧ W.cell? ⟨w.heap.size, 1, none⟩ = some (.slice (some a) ps.length c) ∧ W.cell? ⟨w.heap.size + 1, 0, none⟩ = some (.int .i64 b.brk) ∧ W.cell? ⟨w.heap.size + 1, 1, none⟩ = some (.int .i64 b.drag) ∧ W.cell? ⟨w.heap.size + 1, 2, none⟩ = some (.int .i64 b.drv) ∧ W.cell? ⟨w.heap.size + 1 + 1, 0, none⟩ = some (.int .i64 (p : Int)) ∧ W.cell? ⟨w.heap.size + 1 + 1, 1, none⟩ = some (.int .i64 sq) ∧ W.cell? ⟨w.heap.size + 1 + 1, 2, none⟩ = some (.int .i64 (k : Int)) ∧ W.cell? ⟨gb, 0, none⟩ = some (.int .i64 nb) ∧ W.cell? ⟨gb, 1, none⟩ = some (.int .i64 b.drag) ∧ W.cell? ⟨gb, 2, none⟩ = some (.int .i64 b.drv) ∧ W.cell? ⟨gd, 0, none⟩ = some (.int .i64 b.brk) ∧ W.cell? ⟨gd, 1, none⟩ = some (.int .i64 nd) ∧ W.cell? ⟨gd, 2, none⟩ = some (.int .i64 b.drv)) := Lib.hid (fun W hW => ⟨hW, ((FC2.out.get 4 rfl).call hW.bl).cell 0, ((FC2.out.get 4 rfl).call hW.bl).cell 1, ((FC2.out.get 3 rfl).call hW.bl).cell 0, ((FC2.out.get 3 rfl).call hW.bl).cell 1, ((FC2.out.get 3 rfl).call hW.bl).cell 2, ((FC2.out.get 2 rfl).call hW.bl).cell 0, ((FC2.out.get 2 rfl).call hW.bl).cell 1, ((FC2.out.get 2 rfl).call hW.bl).cell 2, ((FC2.out.get 1 rfl).call hW.bl).cell 0, ((FC2.out.get 1 rfl).call hW.bl).cell 1, ((FC2.out.get 1 rfl).call hW.bl).cell 2, ((FC2.out.get 0 rfl).call hW.bl).cell 0, ((FC2.out.get 0 rfl).call hW.bl).cell 1, ((FC2.out.get 0 rfl).call hW.bl).cell 2⟩)
            have HAC := Lib.hid (Fr.lies HA.out FC2.out)
            have F10 : Fr wx2 _ [] := Fr.nil wx2
            go_region_held3 (fun W => Fr wx2 W [] ∧ W.cell? ⟨w.heap.size, 0, none⟩ = some (.string s) ∧ W.cell? ⟨w.heap.size, 1, none⟩ = some (.slice (some a) ps.length c) ∧ W.cell? ⟨w.heap.size + 1, 0, none⟩ = some (.int .i64 b.brk) ∧ W.cell? ⟨w.heap.size + 1, 1, none⟩ = some (.int .i64 b.drag) ∧ W.cell? ⟨w.heap.size + 1, 2, none⟩ = some (.int .i64 b.drv) ∧ W.cell? ⟨w.heap.size + 1 + 1, 0, none⟩ = some (.int .i64 (p : Int)) ∧ W.cell? ⟨w.heap.size + 1 + 1, 1, none⟩ = some (.int .i64 sq) ∧ W.cell? ⟨w.heap.size + 1 + 1, 2, none⟩ = some (.int .i64 (k : Int)) ∧ W.cell? ⟨gb, 0, none⟩ = some (.int .i64 nb) ∧ W.cell? ⟨gb, 1, none⟩ = some (.int .i64 b.drag) ∧ W.cell? ⟨gb, 2, none⟩ = some (.int .i64 b.drv) ∧ W.cell? ⟨gd, 0, none⟩ = some (.int .i64 b.brk) ∧ W.cell? ⟨gd, 1, none⟩ = some (.int .i64 nd) ∧ W.cell? ⟨gd, 2, none⟩ = some (.int .i64 b.drv))
                ((go_split_ands; refine HALL.out _ ?_; (first | assumption | (repeat (first | assumption | refine Fr.new ?_ _ | refine Fr.drew ?_ | (refine Fr.set ?_ (by first | exact Nat.le_refl _ | omega | (simp; done) | (simp; omega)) (by first | (simp; done) | (simp; omega)) _))); done)))
                ((first
                  | (go_at_call 14; go_split_ands; (with_reducible refine (Copy_any s ps ⟨(some a), c⟩ (by omega) HG.out _ (Fr.lies HAC.out (by assumption))).mono ?_); rintro e w1 ⟨g2, rfl, hl2, hk2, hb1⟩; have HL2 := Lib.hid hl2; have F4 := Fr.call (by assumption) hb1; clear hb1 hl2 hk2)
                  | (go_at_call 31; go_split_ands; (with_reducible refine (HC3.out _ _ _ HL2.out).mono ?_); rintro e w1 ⟨g3, rfl, hl3, hb1⟩; have HL3 := Lib.hid hl3; have F5 := Fr.call (by assumption) hb1; clear hb1 hl3)
                  | fail "arm"))
            all_goals
              go_split_ands
              go_wp2_with fail
              go_meet
              exact ⟨⟨g3, rfl, rfl, HL3.out⟩, by assumption⟩
          case rest =>
            obtain ⟨wx3, rfl⟩ : ∃ W, W = wc := ⟨_, rfl⟩
            obtain ⟨⟨gx9, rfl, rfl, hy9⟩, hx⟩ := hcut
            have FC3 := Lib.hid (FC2.out.call hx.bl)
            have Y7 := Lib.hid (Lies.call Y7.out hx.bl)
            have Y8 := Lib.hid (Lies.call Y8.out hx.bl)
            clear hx FC2
            obtain ⟨k0_0, k0_1, kf0, kg0⟩ := (FC3.out.get 4 rfl).two
            have kz0 := (FC3.out.get 4 rfl).lt
            obtain ⟨k1_0, k1_1, k1_2⟩ := (FC3.out.get 3 rfl).three
            have kz1 := (FC3.out.get 3 rfl).lt
            obtain ⟨k2_0, k2_1, k2_2⟩ := (FC3.out.get 2 rfl).three
            have kz2 := (FC3.out.get 2 rfl).lt
            obtain ⟨k3_0, k3_1, k3_2⟩ := (FC3.out.get 1 rfl).three
            have kz3 := (FC3.out.get 1 rfl).lt
            obtain ⟨k4_0, k4_1, k4_2⟩ := (FC3.out.get 0 rfl).three
            have kz4 := (FC3.out.get 0 rfl).lt
            have Y9 := Lib.hid hy9
            clear hy9
            go_upto_region 10 with fail
            clear k0_0 k0_1 kf0 kg0 kz0 k1_0 k1_1 k1_2 kz1 k2_0 k2_1 k2_2 kz2 k3_0 k3_1 k3_2 kz3 k4_0 k4_1 k4_2 kz4
            go_cut [15, 16] from 97 to 105 (fun r e W => (∃ g : Hd, r = .slice g.A (N1 : Nat) g.c ∧ e = .int .i64 0 ∧ Lies W W.heap.size g.A (ic (listF N1 (lstV ps nd k)))) ∧ Fr wx3 W [])
            case first =>
              have HALL : Hid (∀ W, Fr wx3 W [] → Fr wx3 W [] ∧ W.cell? ⟨w.heap.size, 0, none⟩ = some (.string s) ∧ W.cell? ⟨w.heap.size, 1, none⟩ = some (.slice (some a) ps.length c) ∧ W.cell? ⟨w.heap.size + 1, 0, none⟩ = some (.int .i64 b.brk) ∧ W.cell? ⟨w.heap.size + 1, 1, none⟩ = some (.int .i64 b.drag) ∧ W.cell? ⟨w.heap.size + 1, 2, none⟩ = some (.int .i64 b.drv) ∧ W.cell? ⟨w.heap.size + 1 + 1, 0, none⟩ = some (.int .i64 (p : Int)) ∧ W.cell? ⟨w.heap.size + 1 + 1, 1, none⟩ = some (.int .i64 sq) ∧ W.cell? ⟨w.heap.size + 1 + 1, 2, none⟩ = some (.int .i64 (k : Int)) ∧ W.cell? ⟨gb, 0, none⟩ = some (.int .i64 nb) ∧ W.cell? ⟨gb, 1, none⟩ = some (.int .i64 b.drag) ∧ W.cell? ⟨gb, 2, none⟩ = some (.int .i64 b.drv) ∧ W.cell? ⟨gd, 0, none⟩ = some (.int .i64 b.brk) ∧ W.cell? ⟨gd, 1, none⟩ = some (.int .i64 nd) ∧ W.cell? ⟨gd, 2, none⟩ = some (.int .i64 b.drv)) := Lib.hid (fun W hW => ⟨hW, ((FC3.out.get 4 rfl).call hW.bl).cell 0, ((FC3.out.get 4 rfl).call hW.bl).cell 1, ((FC3.out.get 3 rfl).call hW.bl).cell 0, ((FC3.out.get 3 rfl).call hW.bl).cell 1, ((FC3.out.get 3 rfl).call hW.bl).cell 2, ((FC3.out.get 2 rfl).call hW.bl).cell 0, ((FC3.out.get 2 rfl).call hW.bl).cell 1, ((FC3.out.get 2 rfl).call hW.bl).cell 2, ((FC3.out.get 1 rfl).call hW.bl).cell 0, ((FC3.out.get 1 rfl).call hW.bl).cell 1, ((FC3.out.get 1 rfl).call hW.bl).cell 2, ((FC3.out.get 0 rfl).call hW.bl).cell 0, ((FC3.out.get 0 rfl).call hW.bl).cell 1, ((FC3.out.get 0 rfl).call hW.bl).cell 2⟩)
              have HAC := Lib.hid (Fr.lies HA.out FC3.out)
              have F10 : Fr wx3 _ [] := Fr.nil wx3
              go_region_held3 (fun W => Fr wx3 W [] ∧ W.cell? ⟨w.heap.size, 0, none⟩ = some (.string s) ∧ W.cell? ⟨w.heap.size, 1, none⟩ = some (.slice (some a) ps.length c) ∧ W.cell? ⟨w.heap.size + 1, 0, none⟩ = some (.int .i64 b.brk) ∧ W.cell? ⟨w.heap.size + 1, 1, none⟩ = some (.int .i64 b.drag) ∧ W.cell? ⟨w.heap.size + 1, 2, none⟩ = some (.int .i64 b.drv) ∧ W.cell? ⟨w.heap.size + 1 + 1, 0, none⟩ = some (.int .i64 (p : Int)) ∧ W.cell? ⟨w.heap.size + 1 + 1, 1, none⟩ = some (.int .i64 sq) ∧ W.cell? ⟨w.heap.size + 1 + 1, 2, none⟩ = some (.int .i64 (k : Int)) ∧ W.cell? ⟨gb, 0, none⟩ = some (.int .i64 nb) ∧ W.cell? ⟨gb, 1, none⟩ = some (.int .i64 b.drag) ∧ W.cell? ⟨gb, 2, none⟩ = some (.int .i64 b.drv) ∧ W.cell? ⟨gd, 0, none⟩ = some (.int .i64 b.brk) ∧ W.cell? ⟨gd, 1, none⟩ = some (.int .i64 nd) ∧ W.cell? ⟨gd, 2, none⟩ = some (.int .i64 b.drv))
                  ((go_split_ands; refine HALL.out _ ?_; (first | assumption | (repeat (first | assumption | refine Fr.new ?_ _ | refine Fr.drew ?_ | (refine Fr.set ?_ (by first | exact Nat.le_refl _ | omega | (simp; done) | (simp; omega)) (by first | (simp; done) | (simp; omega)) _))); done)))
                  ((first
                    | (go_at_call 14; go_split_ands; (with_reducible refine (Copy_any s ps ⟨(some a), c⟩ (by omega) HG.out _ (Fr.lies HAC.out (by assumption))).mono ?_); rintro e w1 ⟨g2, rfl, hl2, hk2, hb1⟩; have HL2 := Lib.hid hl2; have F4 := Fr.call (by assumption) hb1; clear hb1 hl2 hk2)
                    | (go_at_call 31; go_split_ands; (with_reducible refine (HC4.out _ _ _ HL2.out).mono ?_); rintro e w1 ⟨g3, rfl, hl3, hb1⟩; have HL3 := Lib.hid hl3; have F5 := Fr.call (by assumption) hb1; clear hb1 hl3)
                    | fail "arm"))
              all_goals
                go_split_ands
                go_wp2_with fail
                go_meet
                exact ⟨⟨g3, rfl, rfl, HL3.out⟩, by assumption⟩
            case rest =>
              obtain ⟨wx4, rfl⟩ : ∃ W, W = wc := ⟨_, rfl⟩
              obtain ⟨⟨gx10, rfl, rfl, hy10⟩, hx⟩ := hcut
              have FC4 := Lib.hid (FC3.out.call hx.bl)
              have Y7 := Lib.hid (Lies.call Y7.out hx.bl)
              have Y8 := Lib.hid (Lies.call Y8.out hx.bl)
              have Y9 := Lib.hid (Lies.call Y9.out hx.bl)
              clear hx FC3
              obtain ⟨k0_0, k0_1, kf0, kg0⟩ := (FC4.out.get 4 rfl).two
              have kz0 := (FC4.out.get 4 rfl).lt
              obtain ⟨k1_0, k1_1, k1_2⟩ := (FC4.out.get 3 rfl).three
              have kz1 := (FC4.out.get 3 rfl).lt
              obtain ⟨k2_0, k2_1, k2_2⟩ := (FC4.out.get 2 rfl).three
              have kz2 := (FC4.out.get 2 rfl).lt
              obtain ⟨k3_0, k3_1, k3_2⟩ := (FC4.out.get 1 rfl).three
              have kz3 := (FC4.out.get 1 rfl).lt
              obtain ⟨k4_0, k4_1, k4_2⟩ := (FC4.out.get 0 rfl).three
              have kz4 := (FC4.out.get 0 rfl).lt
              have Y10 := Lib.hid hy10
              clear hy10
              clear k0_0 k0_1 kf0 kg0 kz0 k1_0 k1_1 k1_2 kz1 k2_0 k2_1 k2_2 kz2 k3_0 k3_1 k3_2 kz3 k4_0 k4_1 k4_2 kz4
              obtain ⟨Af1, cf1⟩ := gx7
              obtain ⟨Ag1, cg1⟩ := gx8
              go_wp2_with fail
              go_loopw [17] (fun i wr => ∃ t : Nat, t ≤ N2 ∧ i = .int .i64 (t : Int) ∧ Fr wx4 wr []) (fun i _ => N2 + 1 - (intOf i).toNat)
              case atStart => exact ⟨0, Nat.zero_le _, rfl, Fr.nil wx4⟩
              case round =>
                obtain ⟨t1, ht1, rfl, hf1⟩ := hrel
                have HF1 := Lib.hid hf1
                by_cases hlt : t1 < N2
                · have hlt' : (t1 : Int) < (N2 : Int) := by omega
                  have hwt := IntWalk.i64_in ((t1 : Int) + 1) (by omega)
                  have hmono := HM2.out t1 hlt
                  obtain ⟨uf, huf⟩ : ∃ uf, crvV ps b.brk k t1 = uf := ⟨_, rfl⟩
                  obtain ⟨ug, hug⟩ : ∃ ug, crvV ps nb k t1 = ug := ⟨_, rfl⟩
                  rw [huf, hug] at hmono
                  have hng : decide (ug < uf) = false := decide_eq_false (by omega)
                  have hng2 : ¬ ug < uf := by omega
                  obtain ⟨bf, ef, _, cf⟩ := (Lies.call Y7.out hf1.bl).num (listF_at (n := N2) (f := crvV ps b.brk k) (k := t1) (by omega))
                  obtain ⟨bg, eg, _, cg⟩ := (Lies.call Y8.out hf1.bl).num (listF_at (n := N2) (f := crvV ps nb k) (k := t1) (by omega))
                  try simp only at ef eg
                  subst ef
                  subst eg
                  rw [huf] at cf
                  rw [hug] at cg
                  have ht2 : t1 + 1 ≤ N2 := by omega
                  clear huf hug hf1 hmono
                  go_wp2_with fail
                  go_quiet (fail)
                  go_wp2_with fail
                  go_roundw
                  case rel => exact ⟨t1 + 1, ht2, rfl, HF1.out.call (below_drewN (Below.refl _ _) _)⟩
                  case measure => simp [intOf] <;> omega
                · have hge : ¬ ((t1 : Int) < (N2 : Int)) := by omega
                  obtain ⟨Af2, cf2⟩ := gx9
                  obtain ⟨Ag2, cg2⟩ := gx10
                  go_wp2_with fail
                  go_loopw [18] (fun i wr => ∃ t : Nat, t ≤ N1 ∧ i = .int .i64 (t : Int) ∧ Fr wx4 wr []) (fun i _ => N1 + 1 - (intOf i).toNat)
                  case atStart => exact ⟨0, Nat.zero_le _, rfl, HF1.out⟩
                  case round =>
                    obtain ⟨t2, ht2, rfl, hf2⟩ := hrel
                    have HF2 := Lib.hid hf2
                    by_cases hlt : t2 < N1
                    · have hlt' : (t2 : Int) < (N1 : Int) := by omega
                      have hwt := IntWalk.i64_in ((t2 : Int) + 1) (by omega)
                      have hmono := HM1.out t2 hlt
                      obtain ⟨uf, huf⟩ : ∃ uf, lstV ps b.drag k t2 = uf := ⟨_, rfl⟩
                      obtain ⟨ug, hug⟩ : ∃ ug, lstV ps nd k t2 = ug := ⟨_, rfl⟩
                      rw [huf, hug] at hmono
                      have hng : decide (ug < uf) = false := decide_eq_false (by omega)
                      have hng2 : ¬ ug < uf := by omega
                      obtain ⟨bf, ef, _, cf⟩ := (Lies.call Y9.out hf2.bl).num (listF_at (n := N1) (f := lstV ps b.drag k) (k := t2) (by omega))
                      obtain ⟨bg, eg, _, cg⟩ := (Lies.call Y10.out hf2.bl).num (listF_at (n := N1) (f := lstV ps nd k) (k := t2) (by omega))
                      try simp only at ef eg
                      subst ef
                      subst eg
                      rw [huf] at cf
                      rw [hug] at cg
                      have ht2 : t2 + 1 ≤ N1 := by omega
                      clear huf hug hf2 hmono
                      go_wp2_with fail
                      go_quiet (fail)
                      go_wp2_with fail
                      go_roundw
                      case rel => exact ⟨t2 + 1, ht2, rfl, HF2.out.call (below_drewN (Below.refl _ _) _)⟩
                      case measure => simp [intOf] <;> omega
                    · have hge : ¬ ((t2 : Int) < (N1 : Int)) := by omega
                      go_upto_region 23 with fail
                      go_cut [19, 20] from 164 to 174 (fun r e W => (r = .bool u ∧ e = .int .i64 0) ∧ Fr wx4 W [])
                      case first =>
                        have HALL : Hid (∀ W, Fr wx4 W [] → Fr wx4 W [] ∧ W.cell? ⟨w.heap.size, 0, none⟩ = some (.string s) ∧ W.cell? ⟨w.heap.size, 1, none⟩ = some (.slice (some a) ps.length c) ∧ W.cell? ⟨w.heap.size + 1, 0, none⟩ = some (.int .i64 b.brk) ∧ W.cell? ⟨w.heap.size + 1, 1, none⟩ = some (.int .i64 b.drag) ∧ W.cell? ⟨w.heap.size + 1, 2, none⟩ = some (.int .i64 b.drv) ∧ W.cell? ⟨w.heap.size + 1 + 1, 0, none⟩ = some (.int .i64 (p : Int)) ∧ W.cell? ⟨w.heap.size + 1 + 1, 1, none⟩ = some (.int .i64 sq) ∧ W.cell? ⟨w.heap.size + 1 + 1, 2, none⟩ = some (.int .i64 (k : Int)) ∧ W.cell? ⟨gb, 0, none⟩ = some (.int .i64 nb) ∧ W.cell? ⟨gb, 1, none⟩ = some (.int .i64 b.drag) ∧ W.cell? ⟨gb, 2, none⟩ = some (.int .i64 b.drv) ∧ W.cell? ⟨gd, 0, none⟩ = some (.int .i64 b.brk) ∧ W.cell? ⟨gd, 1, none⟩ = some (.int .i64 nd) ∧ W.cell? ⟨gd, 2, none⟩ = some (.int .i64 b.drv)) := Lib.hid (fun W hW => ⟨hW, ((FC4.out.get 4 rfl).call hW.bl).cell 0, ((FC4.out.get 4 rfl).call hW.bl).cell 1, ((FC4.out.get 3 rfl).call hW.bl).cell 0, ((FC4.out.get 3 rfl).call hW.bl).cell 1, ((FC4.out.get 3 rfl).call hW.bl).cell 2, ((FC4.out.get 2 rfl).call hW.bl).cell 0, ((FC4.out.get 2 rfl).call hW.bl).cell 1, ((FC4.out.get 2 rfl).call hW.bl).cell 2, ((FC4.out.get 1 rfl).call hW.bl).cell 0, ((FC4.out.get 1 rfl).call hW.bl).cell 1, ((FC4.out.get 1 rfl).call hW.bl).cell 2, ((FC4.out.get 0 rfl).call hW.bl).cell 0, ((FC4.out.get 0 rfl).call hW.bl).cell 1, ((FC4.out.get 0 rfl).call hW.bl).cell 2⟩)
                        have HAC := Lib.hid (Fr.lies HA.out FC4.out)
                        have F10 := HF2.out
                        go_region_held3 (fun W => Fr wx4 W [] ∧ W.cell? ⟨w.heap.size, 0, none⟩ = some (.string s) ∧ W.cell? ⟨w.heap.size, 1, none⟩ = some (.slice (some a) ps.length c) ∧ W.cell? ⟨w.heap.size + 1, 0, none⟩ = some (.int .i64 b.brk) ∧ W.cell? ⟨w.heap.size + 1, 1, none⟩ = some (.int .i64 b.drag) ∧ W.cell? ⟨w.heap.size + 1, 2, none⟩ = some (.int .i64 b.drv) ∧ W.cell? ⟨w.heap.size + 1 + 1, 0, none⟩ = some (.int .i64 (p : Int)) ∧ W.cell? ⟨w.heap.size + 1 + 1, 1, none⟩ = some (.int .i64 sq) ∧ W.cell? ⟨w.heap.size + 1 + 1, 2, none⟩ = some (.int .i64 (k : Int)) ∧ W.cell? ⟨gb, 0, none⟩ = some (.int .i64 nb) ∧ W.cell? ⟨gb, 1, none⟩ = some (.int .i64 b.drag) ∧ W.cell? ⟨gb, 2, none⟩ = some (.int .i64 b.drv) ∧ W.cell? ⟨gd, 0, none⟩ = some (.int .i64 b.brk) ∧ W.cell? ⟨gd, 1, none⟩ = some (.int .i64 nd) ∧ W.cell? ⟨gd, 2, none⟩ = some (.int .i64 b.drv))
                            ((go_split_ands; refine HALL.out _ ?_; (first | assumption | (repeat (first | assumption | refine Fr.new ?_ _ | refine Fr.drew ?_ | (refine Fr.set ?_ (by first | exact Nat.le_refl _ | omega | (simp; done) | (simp; omega)) (by first | (simp; done) | (simp; omega)) _))); done)))
                            ((first
                              | (go_at_call 14; go_split_ands; (with_reducible refine (Copy_any s ps ⟨(some a), c⟩ (by omega) HG.out _ (Fr.lies HAC.out (by assumption))).mono ?_); rintro e w1 ⟨g2, rfl, hl2, hk2, hb1⟩; have HL2 := Lib.hid hl2; have F4 := Fr.call (by assumption) hb1; clear hb1 hl2 hk2)
                              | (go_at_call 18; go_split_ands; (with_reducible refine (HR1.out _ _ _ HL2.out).mono ?_); rintro e w1 ⟨rfl, hb1⟩; have F5 := Fr.call (by assumption) hb1; clear hb1)
                              | fail "arm"))
                        all_goals
                          go_split_ands
                          go_wp2_with fail
                          go_meet
                          exact ⟨⟨rfl, rfl⟩, by assumption⟩
                      case rest =>
                        obtain ⟨wx5, rfl⟩ : ∃ W, W = wc := ⟨_, rfl⟩
                        obtain ⟨⟨rfl, rfl⟩, hx⟩ := hcut
                        have FC5 := Lib.hid (FC4.out.call hx.bl)
                        clear hx FC4
                        obtain ⟨k0_0, k0_1, kf0, kg0⟩ := (FC5.out.get 4 rfl).two
                        have kz0 := (FC5.out.get 4 rfl).lt
                        obtain ⟨k1_0, k1_1, k1_2⟩ := (FC5.out.get 3 rfl).three
                        have kz1 := (FC5.out.get 3 rfl).lt
                        obtain ⟨k2_0, k2_1, k2_2⟩ := (FC5.out.get 2 rfl).three
                        have kz2 := (FC5.out.get 2 rfl).lt
                        obtain ⟨k3_0, k3_1, k3_2⟩ := (FC5.out.get 1 rfl).three
                        have kz3 := (FC5.out.get 1 rfl).lt
                        obtain ⟨k4_0, k4_1, k4_2⟩ := (FC5.out.get 0 rfl).three
                        have kz4 := (FC5.out.get 0 rfl).lt
                        go_upto_region 24 with fail
                        clear k0_0 k0_1 kf0 kg0 kz0 k1_0 k1_1 k1_2 kz1 k2_0 k2_1 k2_2 kz2 k3_0 k3_1 k3_2 kz3 k4_0 k4_1 k4_2 kz4
                        go_cut [21, 22] from 175 to 185 (fun r e W => (r = .bool v ∧ e = .int .i64 0) ∧ Fr wx5 W [])
                        case first =>
                          have HALL : Hid (∀ W, Fr wx5 W [] → Fr wx5 W [] ∧ W.cell? ⟨w.heap.size, 0, none⟩ = some (.string s) ∧ W.cell? ⟨w.heap.size, 1, none⟩ = some (.slice (some a) ps.length c) ∧ W.cell? ⟨w.heap.size + 1, 0, none⟩ = some (.int .i64 b.brk) ∧ W.cell? ⟨w.heap.size + 1, 1, none⟩ = some (.int .i64 b.drag) ∧ W.cell? ⟨w.heap.size + 1, 2, none⟩ = some (.int .i64 b.drv) ∧ W.cell? ⟨w.heap.size + 1 + 1, 0, none⟩ = some (.int .i64 (p : Int)) ∧ W.cell? ⟨w.heap.size + 1 + 1, 1, none⟩ = some (.int .i64 sq) ∧ W.cell? ⟨w.heap.size + 1 + 1, 2, none⟩ = some (.int .i64 (k : Int)) ∧ W.cell? ⟨gb, 0, none⟩ = some (.int .i64 nb) ∧ W.cell? ⟨gb, 1, none⟩ = some (.int .i64 b.drag) ∧ W.cell? ⟨gb, 2, none⟩ = some (.int .i64 b.drv) ∧ W.cell? ⟨gd, 0, none⟩ = some (.int .i64 b.brk) ∧ W.cell? ⟨gd, 1, none⟩ = some (.int .i64 nd) ∧ W.cell? ⟨gd, 2, none⟩ = some (.int .i64 b.drv)) := Lib.hid (fun W hW => ⟨hW, ((FC5.out.get 4 rfl).call hW.bl).cell 0, ((FC5.out.get 4 rfl).call hW.bl).cell 1, ((FC5.out.get 3 rfl).call hW.bl).cell 0, ((FC5.out.get 3 rfl).call hW.bl).cell 1, ((FC5.out.get 3 rfl).call hW.bl).cell 2, ((FC5.out.get 2 rfl).call hW.bl).cell 0, ((FC5.out.get 2 rfl).call hW.bl).cell 1, ((FC5.out.get 2 rfl).call hW.bl).cell 2, ((FC5.out.get 1 rfl).call hW.bl).cell 0, ((FC5.out.get 1 rfl).call hW.bl).cell 1, ((FC5.out.get 1 rfl).call hW.bl).cell 2, ((FC5.out.get 0 rfl).call hW.bl).cell 0, ((FC5.out.get 0 rfl).call hW.bl).cell 1, ((FC5.out.get 0 rfl).call hW.bl).cell 2⟩)
                          have HAC := Lib.hid (Fr.lies HA.out FC5.out)
                          have F10 : Fr wx5 _ [] := Fr.nil wx5
                          go_region_held3 (fun W => Fr wx5 W [] ∧ W.cell? ⟨w.heap.size, 0, none⟩ = some (.string s) ∧ W.cell? ⟨w.heap.size, 1, none⟩ = some (.slice (some a) ps.length c) ∧ W.cell? ⟨w.heap.size + 1, 0, none⟩ = some (.int .i64 b.brk) ∧ W.cell? ⟨w.heap.size + 1, 1, none⟩ = some (.int .i64 b.drag) ∧ W.cell? ⟨w.heap.size + 1, 2, none⟩ = some (.int .i64 b.drv) ∧ W.cell? ⟨w.heap.size + 1 + 1, 0, none⟩ = some (.int .i64 (p : Int)) ∧ W.cell? ⟨w.heap.size + 1 + 1, 1, none⟩ = some (.int .i64 sq) ∧ W.cell? ⟨w.heap.size + 1 + 1, 2, none⟩ = some (.int .i64 (k : Int)) ∧ W.cell? ⟨gb, 0, none⟩ = some (.int .i64 nb) ∧ W.cell? ⟨gb, 1, none⟩ = some (.int .i64 b.drag) ∧ W.cell? ⟨gb, 2, none⟩ = some (.int .i64 b.drv) ∧ W.cell? ⟨gd, 0, none⟩ = some (.int .i64 b.brk) ∧ W.cell? ⟨gd, 1, none⟩ = some (.int .i64 nd) ∧ W.cell? ⟨gd, 2, none⟩ = some (.int .i64 b.drv))
                              ((go_split_ands; refine HALL.out _ ?_; (first | assumption | (repeat (first | assumption | refine Fr.new ?_ _ | refine Fr.drew ?_ | (refine Fr.set ?_ (by first | exact Nat.le_refl _ | omega | (simp; done) | (simp; omega)) (by first | (simp; done) | (simp; omega)) _))); done)))
                              ((first
                                | (go_at_call 14; go_split_ands; (with_reducible refine (Copy_any s ps ⟨(some a), c⟩ (by omega) HG.out _ (Fr.lies HAC.out (by assumption))).mono ?_); rintro e w1 ⟨g2, rfl, hl2, hk2, hb1⟩; have HL2 := Lib.hid hl2; have F4 := Fr.call (by assumption) hb1; clear hb1 hl2 hk2)
                                | (go_at_call 18; go_split_ands; (with_reducible refine (HR2.out _ _ _ HL2.out).mono ?_); rintro e w1 ⟨rfl, hb1⟩; have F5 := Fr.call (by assumption) hb1; clear hb1)
                                | fail "arm"))
                          all_goals
                            go_split_ands
                            go_wp2_with fail
                            go_meet
                            exact ⟨⟨rfl, rfl⟩, by assumption⟩
                        case rest =>
                          obtain ⟨wx6, rfl⟩ : ∃ W, W = wc := ⟨_, rfl⟩
                          obtain ⟨⟨rfl, rfl⟩, hx⟩ := hcut
                          have FC6 := Lib.hid (FC5.out.call hx.bl)
                          clear hx FC5
                          obtain ⟨k0_0, k0_1, kf0, kg0⟩ := (FC6.out.get 4 rfl).two
                          have kz0 := (FC6.out.get 4 rfl).lt
                          obtain ⟨k1_0, k1_1, k1_2⟩ := (FC6.out.get 3 rfl).three
                          have kz1 := (FC6.out.get 3 rfl).lt
                          obtain ⟨k2_0, k2_1, k2_2⟩ := (FC6.out.get 2 rfl).three
                          have kz2 := (FC6.out.get 2 rfl).lt
                          obtain ⟨k3_0, k3_1, k3_2⟩ := (FC6.out.get 1 rfl).three
                          have kz3 := (FC6.out.get 1 rfl).lt
                          obtain ⟨k4_0, k4_1, k4_2⟩ := (FC6.out.get 0 rfl).three
                          have kz4 := (FC6.out.get 0 rfl).lt
                          cases u with
                          | false =>
                            go_wp2_with fail
                            go_ret
                            exact ⟨rfl, FC6.out.bl⟩
                          | true =>
                            have hv : v = true := HUV.out rfl
                            subst hv
                            go_wp2_with fail
                            go_ret
                            exact ⟨rfl, FC6.out.bl⟩

set_option maxHeartbeats 8000000 in
set_option maxRecDepth 100000 in
theorem BrakeBetter_any (s : ByteArray) (hs : s.size ≤ maxLen) (ps : List Bp) (A : Option Addr) (c : Nat) (hg : HdOk ⟨A, c⟩) (hl : ps.length ≤ maxLen) (b : Bs) (p sq stop : Int) (w : World) (hA : Lies w w.heap.size A (ps.flatMap pc)) : Calls Try.prog 7 #[.agg #[.string s, .slice A ps.length c], .agg #[.int .i64 b.brk, .int .i64 b.drag, .int .i64 b.drv], .agg #[.int .i64 p, .int .i64 sq, .int .i64 stop]] w fun e w' => e = .returned (.bool true) ∧ Below w.heap.size w w' := by
  cases hsh : shortB s ps with
  | false => exact be_long s hs ps A c hg hl b p sq stop hsh w hA
  | true =>
    by_cases h0 : bothE s ps b = 0
    · by_cases h1 : stateE ps p sq = 0
      · by_cases h2 : stopE ps stop = 0
        · by_cases h3 : stop < p
          · exact be_bad3 s hs ps A c hg hl b p sq stop hsh h0 h1 h2 h3 w hA
          · obtain ⟨k, rfl, _⟩ := stopE_ok h2
            obtain ⟨q, rfl, _⟩ := stateE_ok h1
            exact be_ok s hs ps A c hg hl b q k sq hsh h0 h1 h2 (by omega) w hA
        · exact be_bad2 s hs ps A c hg hl b p sq stop hsh _ h2 h0 h1 rfl w hA
      · exact be_bad1 s hs ps A c hg hl b p sq stop hsh _ h1 h0 rfl w hA
    · exact be_bad0 s hs ps A c hg hl b p sq stop hsh _ h0 rfl w hA
end Go.Proofs.Ytklllckphddkjaa
