
/-
  The early ends of TopBrakeTogether.
-/
import Derived.Test.YtaghpemdcmjchaaTgA
import Derived.Test.YtaghpemdcmjchaaBCp
namespace Go.Proofs.Ytaghpemdcmjchaa
open Go.RowKit

set_option maxHeartbeats 8000000 in
set_option maxRecDepth 100000 in
theorem tg_end1 (s : ByteArray) (hs : s.size ≤ maxLen) (ps : List Bp) (A : Option Addr) (c : Nat) (hg : HdOk ⟨A, c⟩) (hl : ps.length ≤ maxLen) (s2 : ByteArray) (hs2 : s2.size ≤ maxLen) (ps2 : List Bp) (A2 : Option Addr) (c2 : Nat) (hg2 : HdOk ⟨A2, c2⟩) (hl2 : ps2.length ≤ maxLen) (b : Bs) (l : List Int) (NR : Nat) (hNR : l.length = NR) (R : Option Addr) (cr : Nat) (hgr : HdOk ⟨R, cr⟩) (hrc : NR ≤ cr) (hrm : cr ≤ maxLen) (p sq stop : Int)  (h1 : smallB s ps = false) (w : World) (hA : Lies w w.heap.size A (ps.flatMap pc)) (hA2 : Lies w w.heap.size A2 (ps2.flatMap pc)) (hR : Lies w w.heap.size R (ic l)) : Calls Try.prog 3 #[.agg #[.string s, .slice A ps.length c], .agg #[.string s2, .slice A2 ps2.length c2], .agg #[.int .i64 b.brk, .int .i64 b.drag, .int .i64 b.drv, .int .i64 p, .int .i64 sq, .int .i64 stop, .slice R NR cr]] w fun e w' => e = .returned (.bool true) ∧ Below w.heap.size w w' := by
  have F0 := Lib.hid (Fr.b3 w 24 #[.string s, .slice A ps.length c] 24 #[.string s2, .slice A2 ps2.length c2] 31 #[.int .i64 b.brk, .int .i64 b.drag, .int .i64 b.drv, .int .i64 p, .int .i64 sq, .int .i64 stop, .slice R NR cr])
  have HA := Lib.hid hA
  have HG := Lib.hid hg
  have HA2 := Lib.hid hA2
  have HG2 := Lib.hid hg2
  have HLR := Lib.hid hR
  have HGR := Lib.hid hgr
  have HNR := Lib.hid hNR
  clear hA hg hA2 hg2 hR hgr hNR
  have HS1 := Lib.hid h1
  go_enter Try.func3, Try.ntmps3
  go_wp2_with fail
  refine (brakeAwake_any _).mono ?_
  rintro e w1 ⟨rfl, hb1⟩
  have G1 := Fr.call F0.out hb1
  obtain ⟨k0_0, k0_1, kf0, kg0⟩ := (G1.get 2 rfl).two
  have kz0 := (G1.get 2 rfl).lt
  obtain ⟨k1_0, k1_1, kf1, kg1⟩ := (G1.get 1 rfl).two
  have kz1 := (G1.get 1 rfl).lt
  have k2_0 := (G1.get 0 rfl).cell 0
  have k2_1 := (G1.get 0 rfl).cell 1
  have k2_2 := (G1.get 0 rfl).cell 2
  have k2_3 := (G1.get 0 rfl).cell 3
  have k2_4 := (G1.get 0 rfl).cell 4
  have k2_5 := (G1.get 0 rfl).cell 5
  have k2_6 := (G1.get 0 rfl).cell 6
  have kz2 := (G1.get 0 rfl).lt
  have F1 : Hid (Fr w _ [(w.heap.size + 1 + 1, 31, #[.int .i64 b.brk, .int .i64 b.drag, .int .i64 b.drv, .int .i64 p, .int .i64 sq, .int .i64 stop, .slice R NR cr]), (w.heap.size + 1, 24, #[.string s2, .slice A2 ps2.length c2]), (w.heap.size, 24, #[.string s, .slice A ps.length c])]) := Lib.hid G1
  clear hb1 G1 F0
  go_wp2_with fail
  refine (brakeSmall_any s hs ps A c hl _ (Fr.lies HA.out F1.out)).mono ?_
  rintro e w2 ⟨rfl, hb2⟩
  rw [HS1.out]
  clear k0_0 k0_1 kf0 kg0 kz0 k1_0 k1_1 kf1 kg1 kz1 k2_0 k2_1 k2_2 k2_3 k2_4 k2_5 k2_6 kz2
  have G2 := Fr.call F1.out hb2
  obtain ⟨k0_0, k0_1, kf0, kg0⟩ := (G2.get 2 rfl).two
  have kz0 := (G2.get 2 rfl).lt
  obtain ⟨k1_0, k1_1, kf1, kg1⟩ := (G2.get 1 rfl).two
  have kz1 := (G2.get 1 rfl).lt
  have k2_0 := (G2.get 0 rfl).cell 0
  have k2_1 := (G2.get 0 rfl).cell 1
  have k2_2 := (G2.get 0 rfl).cell 2
  have k2_3 := (G2.get 0 rfl).cell 3
  have k2_4 := (G2.get 0 rfl).cell 4
  have k2_5 := (G2.get 0 rfl).cell 5
  have k2_6 := (G2.get 0 rfl).cell 6
  have kz2 := (G2.get 0 rfl).lt
  have F2 : Hid (Fr w _ [(w.heap.size + 1 + 1, 31, #[.int .i64 b.brk, .int .i64 b.drag, .int .i64 b.drv, .int .i64 p, .int .i64 sq, .int .i64 stop, .slice R NR cr]), (w.heap.size + 1, 24, #[.string s2, .slice A2 ps2.length c2]), (w.heap.size, 24, #[.string s, .slice A ps.length c])]) := Lib.hid G2
  clear hb2 G2 F1
  go_wp2_with fail
  go_ret
  exact ⟨rfl, F2.out.bl⟩

set_option maxHeartbeats 8000000 in
set_option maxRecDepth 100000 in
theorem tg_end2 (s : ByteArray) (hs : s.size ≤ maxLen) (ps : List Bp) (A : Option Addr) (c : Nat) (hg : HdOk ⟨A, c⟩) (hl : ps.length ≤ maxLen) (s2 : ByteArray) (hs2 : s2.size ≤ maxLen) (ps2 : List Bp) (A2 : Option Addr) (c2 : Nat) (hg2 : HdOk ⟨A2, c2⟩) (hl2 : ps2.length ≤ maxLen) (b : Bs) (l : List Int) (NR : Nat) (hNR : l.length = NR) (R : Option Addr) (cr : Nat) (hgr : HdOk ⟨R, cr⟩) (hrc : NR ≤ cr) (hrm : cr ≤ maxLen) (p sq stop : Int) (h1 : smallB s ps = true) (h2 : smallB s2 ps2 = false) (w : World) (hA : Lies w w.heap.size A (ps.flatMap pc)) (hA2 : Lies w w.heap.size A2 (ps2.flatMap pc)) (hR : Lies w w.heap.size R (ic l)) : Calls Try.prog 3 #[.agg #[.string s, .slice A ps.length c], .agg #[.string s2, .slice A2 ps2.length c2], .agg #[.int .i64 b.brk, .int .i64 b.drag, .int .i64 b.drv, .int .i64 p, .int .i64 sq, .int .i64 stop, .slice R NR cr]] w fun e w' => e = .returned (.bool true) ∧ Below w.heap.size w w' := by
  have F0 := Lib.hid (Fr.b3 w 24 #[.string s, .slice A ps.length c] 24 #[.string s2, .slice A2 ps2.length c2] 31 #[.int .i64 b.brk, .int .i64 b.drag, .int .i64 b.drv, .int .i64 p, .int .i64 sq, .int .i64 stop, .slice R NR cr])
  have HA := Lib.hid hA
  have HG := Lib.hid hg
  have HA2 := Lib.hid hA2
  have HG2 := Lib.hid hg2
  have HLR := Lib.hid hR
  have HGR := Lib.hid hgr
  have HNR := Lib.hid hNR
  clear hA hg hA2 hg2 hR hgr hNR
  have HS1 := Lib.hid h1
  have hz1 := small_iff.1 h1
  have HS2 := Lib.hid h2
  go_enter Try.func3, Try.ntmps3
  go_wp2_with fail
  refine (brakeAwake_any _).mono ?_
  rintro e w1 ⟨rfl, hb1⟩
  have G1 := Fr.call F0.out hb1
  obtain ⟨k0_0, k0_1, kf0, kg0⟩ := (G1.get 2 rfl).two
  have kz0 := (G1.get 2 rfl).lt
  obtain ⟨k1_0, k1_1, kf1, kg1⟩ := (G1.get 1 rfl).two
  have kz1 := (G1.get 1 rfl).lt
  have k2_0 := (G1.get 0 rfl).cell 0
  have k2_1 := (G1.get 0 rfl).cell 1
  have k2_2 := (G1.get 0 rfl).cell 2
  have k2_3 := (G1.get 0 rfl).cell 3
  have k2_4 := (G1.get 0 rfl).cell 4
  have k2_5 := (G1.get 0 rfl).cell 5
  have k2_6 := (G1.get 0 rfl).cell 6
  have kz2 := (G1.get 0 rfl).lt
  have F1 : Hid (Fr w _ [(w.heap.size + 1 + 1, 31, #[.int .i64 b.brk, .int .i64 b.drag, .int .i64 b.drv, .int .i64 p, .int .i64 sq, .int .i64 stop, .slice R NR cr]), (w.heap.size + 1, 24, #[.string s2, .slice A2 ps2.length c2]), (w.heap.size, 24, #[.string s, .slice A ps.length c])]) := Lib.hid G1
  clear hb1 G1 F0
  go_wp2_with fail
  refine (brakeSmall_any s hs ps A c hl _ (Fr.lies HA.out F1.out)).mono ?_
  rintro e w2 ⟨rfl, hb2⟩
  rw [HS1.out]
  clear k0_0 k0_1 kf0 kg0 kz0 k1_0 k1_1 kf1 kg1 kz1 k2_0 k2_1 k2_2 k2_3 k2_4 k2_5 k2_6 kz2
  have G2 := Fr.call F1.out hb2
  obtain ⟨k0_0, k0_1, kf0, kg0⟩ := (G2.get 2 rfl).two
  have kz0 := (G2.get 2 rfl).lt
  obtain ⟨k1_0, k1_1, kf1, kg1⟩ := (G2.get 1 rfl).two
  have kz1 := (G2.get 1 rfl).lt
  have k2_0 := (G2.get 0 rfl).cell 0
  have k2_1 := (G2.get 0 rfl).cell 1
  have k2_2 := (G2.get 0 rfl).cell 2
  have k2_3 := (G2.get 0 rfl).cell 3
  have k2_4 := (G2.get 0 rfl).cell 4
  have k2_5 := (G2.get 0 rfl).cell 5
  have k2_6 := (G2.get 0 rfl).cell 6
  have kz2 := (G2.get 0 rfl).lt
  have F2 : Hid (Fr w _ [(w.heap.size + 1 + 1, 31, #[.int .i64 b.brk, .int .i64 b.drag, .int .i64 b.drv, .int .i64 p, .int .i64 sq, .int .i64 stop, .slice R NR cr]), (w.heap.size + 1, 24, #[.string s2, .slice A2 ps2.length c2]), (w.heap.size, 24, #[.string s, .slice A ps.length c])]) := Lib.hid G2
  clear hb2 G2 F1
  go_wp2_with fail
  refine (brakeSmall_any s2 hs2 ps2 A2 c2 hl2 _ (Fr.lies HA2.out F2.out)).mono ?_
  rintro e w3 ⟨rfl, hb3⟩
  rw [HS2.out]
  clear k0_0 k0_1 kf0 kg0 kz0 k1_0 k1_1 kf1 kg1 kz1 k2_0 k2_1 k2_2 k2_3 k2_4 k2_5 k2_6 kz2
  have G3 := Fr.call F2.out hb3
  obtain ⟨k0_0, k0_1, kf0, kg0⟩ := (G3.get 2 rfl).two
  have kz0 := (G3.get 2 rfl).lt
  obtain ⟨k1_0, k1_1, kf1, kg1⟩ := (G3.get 1 rfl).two
  have kz1 := (G3.get 1 rfl).lt
  have k2_0 := (G3.get 0 rfl).cell 0
  have k2_1 := (G3.get 0 rfl).cell 1
  have k2_2 := (G3.get 0 rfl).cell 2
  have k2_3 := (G3.get 0 rfl).cell 3
  have k2_4 := (G3.get 0 rfl).cell 4
  have k2_5 := (G3.get 0 rfl).cell 5
  have k2_6 := (G3.get 0 rfl).cell 6
  have kz2 := (G3.get 0 rfl).lt
  have F3 : Hid (Fr w _ [(w.heap.size + 1 + 1, 31, #[.int .i64 b.brk, .int .i64 b.drag, .int .i64 b.drv, .int .i64 p, .int .i64 sq, .int .i64 stop, .slice R NR cr]), (w.heap.size + 1, 24, #[.string s2, .slice A2 ps2.length c2]), (w.heap.size, 24, #[.string s, .slice A ps.length c])]) := Lib.hid G3
  clear hb3 G3 F2
  go_wp2_with fail
  go_ret
  exact ⟨rfl, F3.out.bl⟩

set_option maxHeartbeats 8000000 in
set_option maxRecDepth 100000 in
theorem tg_end3 (s : ByteArray) (hs : s.size ≤ maxLen) (ps : List Bp) (A : Option Addr) (c : Nat) (hg : HdOk ⟨A, c⟩) (hl : ps.length ≤ maxLen) (s2 : ByteArray) (hs2 : s2.size ≤ maxLen) (ps2 : List Bp) (A2 : Option Addr) (c2 : Nat) (hg2 : HdOk ⟨A2, c2⟩) (hl2 : ps2.length ≤ maxLen) (b : Bs) (l : List Int) (NR : Nat) (hNR : l.length = NR) (R : Option Addr) (cr : Nat) (hgr : HdOk ⟨R, cr⟩) (hrc : NR ≤ cr) (hrm : cr ≤ maxLen) (p sq stop : Int) (h1 : smallB s ps = true) (h2 : smallB s2 ps2 = true) (h3 : 12 < ps.length + ps2.length) (w : World) (hA : Lies w w.heap.size A (ps.flatMap pc)) (hA2 : Lies w w.heap.size A2 (ps2.flatMap pc)) (hR : Lies w w.heap.size R (ic l)) : Calls Try.prog 3 #[.agg #[.string s, .slice A ps.length c], .agg #[.string s2, .slice A2 ps2.length c2], .agg #[.int .i64 b.brk, .int .i64 b.drag, .int .i64 b.drv, .int .i64 p, .int .i64 sq, .int .i64 stop, .slice R NR cr]] w fun e w' => e = .returned (.bool true) ∧ Below w.heap.size w w' := by
  have F0 := Lib.hid (Fr.b3 w 24 #[.string s, .slice A ps.length c] 24 #[.string s2, .slice A2 ps2.length c2] 31 #[.int .i64 b.brk, .int .i64 b.drag, .int .i64 b.drv, .int .i64 p, .int .i64 sq, .int .i64 stop, .slice R NR cr])
  have HA := Lib.hid hA
  have HG := Lib.hid hg
  have HA2 := Lib.hid hA2
  have HG2 := Lib.hid hg2
  have HLR := Lib.hid hR
  have HGR := Lib.hid hgr
  have HNR := Lib.hid hNR
  clear hA hg hA2 hg2 hR hgr hNR
  have HS1 := Lib.hid h1
  have hz1 := small_iff.1 h1
  have HS2 := Lib.hid h2
  have hz2 := small_iff.1 h2
  have hw := IntWalk.i64_in ((ps.length : Int) + (ps2.length : Int)) (by omega)
  have h3i : (12 : Int) < (ps.length : Int) + (ps2.length : Int) := by omega
  go_enter Try.func3, Try.ntmps3
  go_wp2_with fail
  refine (brakeAwake_any _).mono ?_
  rintro e w1 ⟨rfl, hb1⟩
  have G1 := Fr.call F0.out hb1
  obtain ⟨k0_0, k0_1, kf0, kg0⟩ := (G1.get 2 rfl).two
  have kz0 := (G1.get 2 rfl).lt
  obtain ⟨k1_0, k1_1, kf1, kg1⟩ := (G1.get 1 rfl).two
  have kz1 := (G1.get 1 rfl).lt
  have k2_0 := (G1.get 0 rfl).cell 0
  have k2_1 := (G1.get 0 rfl).cell 1
  have k2_2 := (G1.get 0 rfl).cell 2
  have k2_3 := (G1.get 0 rfl).cell 3
  have k2_4 := (G1.get 0 rfl).cell 4
  have k2_5 := (G1.get 0 rfl).cell 5
  have k2_6 := (G1.get 0 rfl).cell 6
  have kz2 := (G1.get 0 rfl).lt
  have F1 : Hid (Fr w _ [(w.heap.size + 1 + 1, 31, #[.int .i64 b.brk, .int .i64 b.drag, .int .i64 b.drv, .int .i64 p, .int .i64 sq, .int .i64 stop, .slice R NR cr]), (w.heap.size + 1, 24, #[.string s2, .slice A2 ps2.length c2]), (w.heap.size, 24, #[.string s, .slice A ps.length c])]) := Lib.hid G1
  clear hb1 G1 F0
  go_wp2_with fail
  refine (brakeSmall_any s hs ps A c hl _ (Fr.lies HA.out F1.out)).mono ?_
  rintro e w2 ⟨rfl, hb2⟩
  rw [HS1.out]
  clear k0_0 k0_1 kf0 kg0 kz0 k1_0 k1_1 kf1 kg1 kz1 k2_0 k2_1 k2_2 k2_3 k2_4 k2_5 k2_6 kz2
  have G2 := Fr.call F1.out hb2
  obtain ⟨k0_0, k0_1, kf0, kg0⟩ := (G2.get 2 rfl).two
  have kz0 := (G2.get 2 rfl).lt
  obtain ⟨k1_0, k1_1, kf1, kg1⟩ := (G2.get 1 rfl).two
  have kz1 := (G2.get 1 rfl).lt
  have k2_0 := (G2.get 0 rfl).cell 0
  have k2_1 := (G2.get 0 rfl).cell 1
  have k2_2 := (G2.get 0 rfl).cell 2
  have k2_3 := (G2.get 0 rfl).cell 3
  have k2_4 := (G2.get 0 rfl).cell 4
  have k2_5 := (G2.get 0 rfl).cell 5
  have k2_6 := (G2.get 0 rfl).cell 6
  have kz2 := (G2.get 0 rfl).lt
  have F2 : Hid (Fr w _ [(w.heap.size + 1 + 1, 31, #[.int .i64 b.brk, .int .i64 b.drag, .int .i64 b.drv, .int .i64 p, .int .i64 sq, .int .i64 stop, .slice R NR cr]), (w.heap.size + 1, 24, #[.string s2, .slice A2 ps2.length c2]), (w.heap.size, 24, #[.string s, .slice A ps.length c])]) := Lib.hid G2
  clear hb2 G2 F1
  go_wp2_with fail
  refine (brakeSmall_any s2 hs2 ps2 A2 c2 hl2 _ (Fr.lies HA2.out F2.out)).mono ?_
  rintro e w3 ⟨rfl, hb3⟩
  rw [HS2.out]
  clear k0_0 k0_1 kf0 kg0 kz0 k1_0 k1_1 kf1 kg1 kz1 k2_0 k2_1 k2_2 k2_3 k2_4 k2_5 k2_6 kz2
  have G3 := Fr.call F2.out hb3
  obtain ⟨k0_0, k0_1, kf0, kg0⟩ := (G3.get 2 rfl).two
  have kz0 := (G3.get 2 rfl).lt
  obtain ⟨k1_0, k1_1, kf1, kg1⟩ := (G3.get 1 rfl).two
  have kz1 := (G3.get 1 rfl).lt
  have k2_0 := (G3.get 0 rfl).cell 0
  have k2_1 := (G3.get 0 rfl).cell 1
  have k2_2 := (G3.get 0 rfl).cell 2
  have k2_3 := (G3.get 0 rfl).cell 3
  have k2_4 := (G3.get 0 rfl).cell 4
  have k2_5 := (G3.get 0 rfl).cell 5
  have k2_6 := (G3.get 0 rfl).cell 6
  have kz2 := (G3.get 0 rfl).lt
  have F3 : Hid (Fr w _ [(w.heap.size + 1 + 1, 31, #[.int .i64 b.brk, .int .i64 b.drag, .int .i64 b.drv, .int .i64 p, .int .i64 sq, .int .i64 stop, .slice R NR cr]), (w.heap.size + 1, 24, #[.string s2, .slice A2 ps2.length c2]), (w.heap.size, 24, #[.string s, .slice A ps.length c])]) := Lib.hid G3
  clear hb3 G3 F2
  go_wp2_with fail
  go_ret
  exact ⟨rfl, F3.out.bl⟩

set_option maxHeartbeats 8000000 in
set_option maxRecDepth 100000 in
theorem tg_end4 (s : ByteArray) (hs : s.size ≤ maxLen) (ps : List Bp) (A : Option Addr) (c : Nat) (hg : HdOk ⟨A, c⟩) (hl : ps.length ≤ maxLen) (s2 : ByteArray) (hs2 : s2.size ≤ maxLen) (ps2 : List Bp) (A2 : Option Addr) (c2 : Nat) (hg2 : HdOk ⟨A2, c2⟩) (hl2 : ps2.length ≤ maxLen) (b : Bs) (l : List Int) (NR : Nat) (hNR : l.length = NR) (R : Option Addr) (cr : Nat) (hgr : HdOk ⟨R, cr⟩) (hrc : NR ≤ cr) (hrm : cr ≤ maxLen) (p sq stop : Int) (h1 : smallB s ps = true) (h2 : smallB s2 ps2 = true) (h3 : ps.length + ps2.length ≤ 12) (h4 : sE b ≠ 0) (w : World) (hA : Lies w w.heap.size A (ps.flatMap pc)) (hA2 : Lies w w.heap.size A2 (ps2.flatMap pc)) (hR : Lies w w.heap.size R (ic l)) : Calls Try.prog 3 #[.agg #[.string s, .slice A ps.length c], .agg #[.string s2, .slice A2 ps2.length c2], .agg #[.int .i64 b.brk, .int .i64 b.drag, .int .i64 b.drv, .int .i64 p, .int .i64 sq, .int .i64 stop, .slice R NR cr]] w fun e w' => e = .returned (.bool true) ∧ Below w.heap.size w w' := by
  have F0 := Lib.hid (Fr.b3 w 24 #[.string s, .slice A ps.length c] 24 #[.string s2, .slice A2 ps2.length c2] 31 #[.int .i64 b.brk, .int .i64 b.drag, .int .i64 b.drv, .int .i64 p, .int .i64 sq, .int .i64 stop, .slice R NR cr])
  have HA := Lib.hid hA
  have HG := Lib.hid hg
  have HA2 := Lib.hid hA2
  have HG2 := Lib.hid hg2
  have HLR := Lib.hid hR
  have HGR := Lib.hid hgr
  have HNR := Lib.hid hNR
  clear hA hg hA2 hg2 hR hgr hNR
  have HS1 := Lib.hid h1
  have hz1 := small_iff.1 h1
  have HS2 := Lib.hid h2
  have hz2 := small_iff.1 h2
  have hw := IntWalk.i64_in ((ps.length : Int) + (ps2.length : Int)) (by omega)
  have h3i : ¬ (12 : Int) < (ps.length : Int) + (ps2.length : Int) := by omega
  obtain ⟨er, her⟩ : ∃ er, sE b = er := ⟨_, rfl⟩
  have HSY := Lib.hid her
  rw [her] at h4
  have gn : (er != 0) = true := by simp [h4]
  clear her
  go_enter Try.func3, Try.ntmps3
  go_wp2_with fail
  refine (brakeAwake_any _).mono ?_
  rintro e w1 ⟨rfl, hb1⟩
  have G1 := Fr.call F0.out hb1
  obtain ⟨k0_0, k0_1, kf0, kg0⟩ := (G1.get 2 rfl).two
  have kz0 := (G1.get 2 rfl).lt
  obtain ⟨k1_0, k1_1, kf1, kg1⟩ := (G1.get 1 rfl).two
  have kz1 := (G1.get 1 rfl).lt
  have k2_0 := (G1.get 0 rfl).cell 0
  have k2_1 := (G1.get 0 rfl).cell 1
  have k2_2 := (G1.get 0 rfl).cell 2
  have k2_3 := (G1.get 0 rfl).cell 3
  have k2_4 := (G1.get 0 rfl).cell 4
  have k2_5 := (G1.get 0 rfl).cell 5
  have k2_6 := (G1.get 0 rfl).cell 6
  have kz2 := (G1.get 0 rfl).lt
  have F1 : Hid (Fr w _ [(w.heap.size + 1 + 1, 31, #[.int .i64 b.brk, .int .i64 b.drag, .int .i64 b.drv, .int .i64 p, .int .i64 sq, .int .i64 stop, .slice R NR cr]), (w.heap.size + 1, 24, #[.string s2, .slice A2 ps2.length c2]), (w.heap.size, 24, #[.string s, .slice A ps.length c])]) := Lib.hid G1
  clear hb1 G1 F0
  go_wp2_with fail
  refine (brakeSmall_any s hs ps A c hl _ (Fr.lies HA.out F1.out)).mono ?_
  rintro e w2 ⟨rfl, hb2⟩
  rw [HS1.out]
  clear k0_0 k0_1 kf0 kg0 kz0 k1_0 k1_1 kf1 kg1 kz1 k2_0 k2_1 k2_2 k2_3 k2_4 k2_5 k2_6 kz2
  have G2 := Fr.call F1.out hb2
  obtain ⟨k0_0, k0_1, kf0, kg0⟩ := (G2.get 2 rfl).two
  have kz0 := (G2.get 2 rfl).lt
  obtain ⟨k1_0, k1_1, kf1, kg1⟩ := (G2.get 1 rfl).two
  have kz1 := (G2.get 1 rfl).lt
  have k2_0 := (G2.get 0 rfl).cell 0
  have k2_1 := (G2.get 0 rfl).cell 1
  have k2_2 := (G2.get 0 rfl).cell 2
  have k2_3 := (G2.get 0 rfl).cell 3
  have k2_4 := (G2.get 0 rfl).cell 4
  have k2_5 := (G2.get 0 rfl).cell 5
  have k2_6 := (G2.get 0 rfl).cell 6
  have kz2 := (G2.get 0 rfl).lt
  have F2 : Hid (Fr w _ [(w.heap.size + 1 + 1, 31, #[.int .i64 b.brk, .int .i64 b.drag, .int .i64 b.drv, .int .i64 p, .int .i64 sq, .int .i64 stop, .slice R NR cr]), (w.heap.size + 1, 24, #[.string s2, .slice A2 ps2.length c2]), (w.heap.size, 24, #[.string s, .slice A ps.length c])]) := Lib.hid G2
  clear hb2 G2 F1
  go_wp2_with fail
  refine (brakeSmall_any s2 hs2 ps2 A2 c2 hl2 _ (Fr.lies HA2.out F2.out)).mono ?_
  rintro e w3 ⟨rfl, hb3⟩
  rw [HS2.out]
  clear k0_0 k0_1 kf0 kg0 kz0 k1_0 k1_1 kf1 kg1 kz1 k2_0 k2_1 k2_2 k2_3 k2_4 k2_5 k2_6 kz2
  have G3 := Fr.call F2.out hb3
  obtain ⟨k0_0, k0_1, kf0, kg0⟩ := (G3.get 2 rfl).two
  have kz0 := (G3.get 2 rfl).lt
  obtain ⟨k1_0, k1_1, kf1, kg1⟩ := (G3.get 1 rfl).two
  have kz1 := (G3.get 1 rfl).lt
  have k2_0 := (G3.get 0 rfl).cell 0
  have k2_1 := (G3.get 0 rfl).cell 1
  have k2_2 := (G3.get 0 rfl).cell 2
  have k2_3 := (G3.get 0 rfl).cell 3
  have k2_4 := (G3.get 0 rfl).cell 4
  have k2_5 := (G3.get 0 rfl).cell 5
  have k2_6 := (G3.get 0 rfl).cell 6
  have kz2 := (G3.get 0 rfl).lt
  have F3 : Hid (Fr w _ [(w.heap.size + 1 + 1, 31, #[.int .i64 b.brk, .int .i64 b.drag, .int .i64 b.drv, .int .i64 p, .int .i64 sq, .int .i64 stop, .slice R NR cr]), (w.heap.size + 1, 24, #[.string s2, .slice A2 ps2.length c2]), (w.heap.size, 24, #[.string s, .slice A ps.length c])]) := Lib.hid G3
  clear hb3 G3 F2
  go_wp2_with fail
  refine (refCheckSystem_any b _).mono ?_
  rintro e w4 ⟨rfl, hb4⟩
  rw [HSY.out]
  clear k0_0 k0_1 kf0 kg0 kz0 k1_0 k1_1 kf1 kg1 kz1 k2_0 k2_1 k2_2 k2_3 k2_4 k2_5 k2_6 kz2
  have G4 := Fr.call F3.out hb4
  obtain ⟨k0_0, k0_1, kf0, kg0⟩ := (G4.get 2 rfl).two
  have kz0 := (G4.get 2 rfl).lt
  obtain ⟨k1_0, k1_1, kf1, kg1⟩ := (G4.get 1 rfl).two
  have kz1 := (G4.get 1 rfl).lt
  have k2_0 := (G4.get 0 rfl).cell 0
  have k2_1 := (G4.get 0 rfl).cell 1
  have k2_2 := (G4.get 0 rfl).cell 2
  have k2_3 := (G4.get 0 rfl).cell 3
  have k2_4 := (G4.get 0 rfl).cell 4
  have k2_5 := (G4.get 0 rfl).cell 5
  have k2_6 := (G4.get 0 rfl).cell 6
  have kz2 := (G4.get 0 rfl).lt
  have F4 : Hid (Fr w _ [(w.heap.size + 1 + 1, 31, #[.int .i64 b.brk, .int .i64 b.drag, .int .i64 b.drv, .int .i64 p, .int .i64 sq, .int .i64 stop, .slice R NR cr]), (w.heap.size + 1, 24, #[.string s2, .slice A2 ps2.length c2]), (w.heap.size, 24, #[.string s, .slice A ps.length c])]) := Lib.hid G4
  clear hb4 G4 F3
  go_wp2_with fail
  go_ret
  exact ⟨rfl, F4.out.bl⟩

set_option maxHeartbeats 8000000 in
set_option maxRecDepth 100000 in
theorem tg_end5 (s : ByteArray) (hs : s.size ≤ maxLen) (ps : List Bp) (A : Option Addr) (c : Nat) (hg : HdOk ⟨A, c⟩) (hl : ps.length ≤ maxLen) (s2 : ByteArray) (hs2 : s2.size ≤ maxLen) (ps2 : List Bp) (A2 : Option Addr) (c2 : Nat) (hg2 : HdOk ⟨A2, c2⟩) (hl2 : ps2.length ≤ maxLen) (b : Bs) (l : List Int) (NR : Nat) (hNR : l.length = NR) (R : Option Addr) (cr : Nat) (hgr : HdOk ⟨R, cr⟩) (hrc : NR ≤ cr) (hrm : cr ≤ maxLen) (p sq stop : Int) (h1 : smallB s ps = true) (h2 : smallB s2 ps2 = true) (h3 : ps.length + ps2.length ≤ 12) (h4 : sE b = 0) (h5 : stopE ps2 stop ≠ 0) (w : World) (hA : Lies w w.heap.size A (ps.flatMap pc)) (hA2 : Lies w w.heap.size A2 (ps2.flatMap pc)) (hR : Lies w w.heap.size R (ic l)) : Calls Try.prog 3 #[.agg #[.string s, .slice A ps.length c], .agg #[.string s2, .slice A2 ps2.length c2], .agg #[.int .i64 b.brk, .int .i64 b.drag, .int .i64 b.drv, .int .i64 p, .int .i64 sq, .int .i64 stop, .slice R NR cr]] w fun e w' => e = .returned (.bool true) ∧ Below w.heap.size w w' := by
  have F0 := Lib.hid (Fr.b3 w 24 #[.string s, .slice A ps.length c] 24 #[.string s2, .slice A2 ps2.length c2] 31 #[.int .i64 b.brk, .int .i64 b.drag, .int .i64 b.drv, .int .i64 p, .int .i64 sq, .int .i64 stop, .slice R NR cr])
  have HA := Lib.hid hA
  have HG := Lib.hid hg
  have HA2 := Lib.hid hA2
  have HG2 := Lib.hid hg2
  have HLR := Lib.hid hR
  have HGR := Lib.hid hgr
  have HNR := Lib.hid hNR
  clear hA hg hA2 hg2 hR hgr hNR
  have HS1 := Lib.hid h1
  have hz1 := small_iff.1 h1
  have HS2 := Lib.hid h2
  have hz2 := small_iff.1 h2
  have hw := IntWalk.i64_in ((ps.length : Int) + (ps2.length : Int)) (by omega)
  have h3i : ¬ (12 : Int) < (ps.length : Int) + (ps2.length : Int) := by omega
  have HSY := Lib.hid h4
  obtain ⟨er, her⟩ : ∃ er, stopE ps2 stop = er := ⟨_, rfl⟩
  have HST := Lib.hid her
  rw [her] at h5
  have gn : (er != 0) = true := by simp [h5]
  clear her
  go_enter Try.func3, Try.ntmps3
  go_wp2_with fail
  refine (brakeAwake_any _).mono ?_
  rintro e w1 ⟨rfl, hb1⟩
  have G1 := Fr.call F0.out hb1
  obtain ⟨k0_0, k0_1, kf0, kg0⟩ := (G1.get 2 rfl).two
  have kz0 := (G1.get 2 rfl).lt
  obtain ⟨k1_0, k1_1, kf1, kg1⟩ := (G1.get 1 rfl).two
  have kz1 := (G1.get 1 rfl).lt
  have k2_0 := (G1.get 0 rfl).cell 0
  have k2_1 := (G1.get 0 rfl).cell 1
  have k2_2 := (G1.get 0 rfl).cell 2
  have k2_3 := (G1.get 0 rfl).cell 3
  have k2_4 := (G1.get 0 rfl).cell 4
  have k2_5 := (G1.get 0 rfl).cell 5
  have k2_6 := (G1.get 0 rfl).cell 6
  have kz2 := (G1.get 0 rfl).lt
  have F1 : Hid (Fr w _ [(w.heap.size + 1 + 1, 31, #[.int .i64 b.brk, .int .i64 b.drag, .int .i64 b.drv, .int .i64 p, .int .i64 sq, .int .i64 stop, .slice R NR cr]), (w.heap.size + 1, 24, #[.string s2, .slice A2 ps2.length c2]), (w.heap.size, 24, #[.string s, .slice A ps.length c])]) := Lib.hid G1
  clear hb1 G1 F0
  go_wp2_with fail
  refine (brakeSmall_any s hs ps A c hl _ (Fr.lies HA.out F1.out)).mono ?_
  rintro e w2 ⟨rfl, hb2⟩
  rw [HS1.out]
  clear k0_0 k0_1 kf0 kg0 kz0 k1_0 k1_1 kf1 kg1 kz1 k2_0 k2_1 k2_2 k2_3 k2_4 k2_5 k2_6 kz2
  have G2 := Fr.call F1.out hb2
  obtain ⟨k0_0, k0_1, kf0, kg0⟩ := (G2.get 2 rfl).two
  have kz0 := (G2.get 2 rfl).lt
  obtain ⟨k1_0, k1_1, kf1, kg1⟩ := (G2.get 1 rfl).two
  have kz1 := (G2.get 1 rfl).lt
  have k2_0 := (G2.get 0 rfl).cell 0
  have k2_1 := (G2.get 0 rfl).cell 1
  have k2_2 := (G2.get 0 rfl).cell 2
  have k2_3 := (G2.get 0 rfl).cell 3
  have k2_4 := (G2.get 0 rfl).cell 4
  have k2_5 := (G2.get 0 rfl).cell 5
  have k2_6 := (G2.get 0 rfl).cell 6
  have kz2 := (G2.get 0 rfl).lt
  have F2 : Hid (Fr w _ [(w.heap.size + 1 + 1, 31, #[.int .i64 b.brk, .int .i64 b.drag, .int .i64 b.drv, .int .i64 p, .int .i64 sq, .int .i64 stop, .slice R NR cr]), (w.heap.size + 1, 24, #[.string s2, .slice A2 ps2.length c2]), (w.heap.size, 24, #[.string s, .slice A ps.length c])]) := Lib.hid G2
  clear hb2 G2 F1
  go_wp2_with fail
  refine (brakeSmall_any s2 hs2 ps2 A2 c2 hl2 _ (Fr.lies HA2.out F2.out)).mono ?_
  rintro e w3 ⟨rfl, hb3⟩
  rw [HS2.out]
  clear k0_0 k0_1 kf0 kg0 kz0 k1_0 k1_1 kf1 kg1 kz1 k2_0 k2_1 k2_2 k2_3 k2_4 k2_5 k2_6 kz2
  have G3 := Fr.call F2.out hb3
  obtain ⟨k0_0, k0_1, kf0, kg0⟩ := (G3.get 2 rfl).two
  have kz0 := (G3.get 2 rfl).lt
  obtain ⟨k1_0, k1_1, kf1, kg1⟩ := (G3.get 1 rfl).two
  have kz1 := (G3.get 1 rfl).lt
  have k2_0 := (G3.get 0 rfl).cell 0
  have k2_1 := (G3.get 0 rfl).cell 1
  have k2_2 := (G3.get 0 rfl).cell 2
  have k2_3 := (G3.get 0 rfl).cell 3
  have k2_4 := (G3.get 0 rfl).cell 4
  have k2_5 := (G3.get 0 rfl).cell 5
  have k2_6 := (G3.get 0 rfl).cell 6
  have kz2 := (G3.get 0 rfl).lt
  have F3 : Hid (Fr w _ [(w.heap.size + 1 + 1, 31, #[.int .i64 b.brk, .int .i64 b.drag, .int .i64 b.drv, .int .i64 p, .int .i64 sq, .int .i64 stop, .slice R NR cr]), (w.heap.size + 1, 24, #[.string s2, .slice A2 ps2.length c2]), (w.heap.size, 24, #[.string s, .slice A ps.length c])]) := Lib.hid G3
  clear hb3 G3 F2
  go_wp2_with fail
  refine (refCheckSystem_any b _).mono ?_
  rintro e w4 ⟨rfl, hb4⟩
  rw [HSY.out]
  clear k0_0 k0_1 kf0 kg0 kz0 k1_0 k1_1 kf1 kg1 kz1 k2_0 k2_1 k2_2 k2_3 k2_4 k2_5 k2_6 kz2
  have G4 := Fr.call F3.out hb4
  obtain ⟨k0_0, k0_1, kf0, kg0⟩ := (G4.get 2 rfl).two
  have kz0 := (G4.get 2 rfl).lt
  obtain ⟨k1_0, k1_1, kf1, kg1⟩ := (G4.get 1 rfl).two
  have kz1 := (G4.get 1 rfl).lt
  have k2_0 := (G4.get 0 rfl).cell 0
  have k2_1 := (G4.get 0 rfl).cell 1
  have k2_2 := (G4.get 0 rfl).cell 2
  have k2_3 := (G4.get 0 rfl).cell 3
  have k2_4 := (G4.get 0 rfl).cell 4
  have k2_5 := (G4.get 0 rfl).cell 5
  have k2_6 := (G4.get 0 rfl).cell 6
  have kz2 := (G4.get 0 rfl).lt
  have F4 : Hid (Fr w _ [(w.heap.size + 1 + 1, 31, #[.int .i64 b.brk, .int .i64 b.drag, .int .i64 b.drv, .int .i64 p, .int .i64 sq, .int .i64 stop, .slice R NR cr]), (w.heap.size + 1, 24, #[.string s2, .slice A2 ps2.length c2]), (w.heap.size, 24, #[.string s, .slice A ps.length c])]) := Lib.hid G4
  clear hb4 G4 F3
  go_wp2_with fail
  refine (StopErr_any s2 ps2 A2 c2 (by omega) stop _ (Fr.lies HA2.out F4.out)).mono ?_
  rintro e w5 ⟨rfl, hb5⟩
  rw [HST.out]
  clear k0_0 k0_1 kf0 kg0 kz0 k1_0 k1_1 kf1 kg1 kz1 k2_0 k2_1 k2_2 k2_3 k2_4 k2_5 k2_6 kz2
  have G5 := Fr.call F4.out hb5
  obtain ⟨k0_0, k0_1, kf0, kg0⟩ := (G5.get 2 rfl).two
  have kz0 := (G5.get 2 rfl).lt
  obtain ⟨k1_0, k1_1, kf1, kg1⟩ := (G5.get 1 rfl).two
  have kz1 := (G5.get 1 rfl).lt
  have k2_0 := (G5.get 0 rfl).cell 0
  have k2_1 := (G5.get 0 rfl).cell 1
  have k2_2 := (G5.get 0 rfl).cell 2
  have k2_3 := (G5.get 0 rfl).cell 3
  have k2_4 := (G5.get 0 rfl).cell 4
  have k2_5 := (G5.get 0 rfl).cell 5
  have k2_6 := (G5.get 0 rfl).cell 6
  have kz2 := (G5.get 0 rfl).lt
  have F5 : Hid (Fr w _ [(w.heap.size + 1 + 1, 31, #[.int .i64 b.brk, .int .i64 b.drag, .int .i64 b.drv, .int .i64 p, .int .i64 sq, .int .i64 stop, .slice R NR cr]), (w.heap.size + 1, 24, #[.string s2, .slice A2 ps2.length c2]), (w.heap.size, 24, #[.string s, .slice A ps.length c])]) := Lib.hid G5
  clear hb5 G5 F4
  go_wp2_with fail
  go_ret
  exact ⟨rfl, F5.out.bl⟩

set_option maxHeartbeats 8000000 in
set_option maxRecDepth 100000 in
theorem tg_end6 (s : ByteArray) (hs : s.size ≤ maxLen) (ps : List Bp) (A : Option Addr) (c : Nat) (hg : HdOk ⟨A, c⟩) (hl : ps.length ≤ maxLen) (s2 : ByteArray) (hs2 : s2.size ≤ maxLen) (ps2 : List Bp) (A2 : Option Addr) (c2 : Nat) (hg2 : HdOk ⟨A2, c2⟩) (hl2 : ps2.length ≤ maxLen) (b : Bs) (l : List Int) (NR : Nat) (hNR : l.length = NR) (R : Option Addr) (cr : Nat) (hgr : HdOk ⟨R, cr⟩) (hrc : NR ≤ cr) (hrm : cr ≤ maxLen) (p sq stop : Int) (h1 : smallB s ps = true) (h2 : smallB s2 ps2 = true) (h3 : ps.length + ps2.length ≤ 12) (h4 : sE b = 0) (h5 : stopE ps2 stop = 0) (h6 : stateE ps2 p sq ≠ 0) (w : World) (hA : Lies w w.heap.size A (ps.flatMap pc)) (hA2 : Lies w w.heap.size A2 (ps2.flatMap pc)) (hR : Lies w w.heap.size R (ic l)) : Calls Try.prog 3 #[.agg #[.string s, .slice A ps.length c], .agg #[.string s2, .slice A2 ps2.length c2], .agg #[.int .i64 b.brk, .int .i64 b.drag, .int .i64 b.drv, .int .i64 p, .int .i64 sq, .int .i64 stop, .slice R NR cr]] w fun e w' => e = .returned (.bool true) ∧ Below w.heap.size w w' := by
  have F0 := Lib.hid (Fr.b3 w 24 #[.string s, .slice A ps.length c] 24 #[.string s2, .slice A2 ps2.length c2] 31 #[.int .i64 b.brk, .int .i64 b.drag, .int .i64 b.drv, .int .i64 p, .int .i64 sq, .int .i64 stop, .slice R NR cr])
  have HA := Lib.hid hA
  have HG := Lib.hid hg
  have HA2 := Lib.hid hA2
  have HG2 := Lib.hid hg2
  have HLR := Lib.hid hR
  have HGR := Lib.hid hgr
  have HNR := Lib.hid hNR
  clear hA hg hA2 hg2 hR hgr hNR
  have HS1 := Lib.hid h1
  have hz1 := small_iff.1 h1
  have HS2 := Lib.hid h2
  have hz2 := small_iff.1 h2
  have hw := IntWalk.i64_in ((ps.length : Int) + (ps2.length : Int)) (by omega)
  have h3i : ¬ (12 : Int) < (ps.length : Int) + (ps2.length : Int) := by omega
  have HSY := Lib.hid h4
  have HST := Lib.hid h5
  obtain ⟨er, her⟩ : ∃ er, stateE ps2 p sq = er := ⟨_, rfl⟩
  have HSE := Lib.hid her
  rw [her] at h6
  have gn : (er != 0) = true := by simp [h6]
  clear her
  go_enter Try.func3, Try.ntmps3
  go_wp2_with fail
  refine (brakeAwake_any _).mono ?_
  rintro e w1 ⟨rfl, hb1⟩
  have G1 := Fr.call F0.out hb1
  obtain ⟨k0_0, k0_1, kf0, kg0⟩ := (G1.get 2 rfl).two
  have kz0 := (G1.get 2 rfl).lt
  obtain ⟨k1_0, k1_1, kf1, kg1⟩ := (G1.get 1 rfl).two
  have kz1 := (G1.get 1 rfl).lt
  have k2_0 := (G1.get 0 rfl).cell 0
  have k2_1 := (G1.get 0 rfl).cell 1
  have k2_2 := (G1.get 0 rfl).cell 2
  have k2_3 := (G1.get 0 rfl).cell 3
  have k2_4 := (G1.get 0 rfl).cell 4
  have k2_5 := (G1.get 0 rfl).cell 5
  have k2_6 := (G1.get 0 rfl).cell 6
  have kz2 := (G1.get 0 rfl).lt
  have F1 : Hid (Fr w _ [(w.heap.size + 1 + 1, 31, #[.int .i64 b.brk, .int .i64 b.drag, .int .i64 b.drv, .int .i64 p, .int .i64 sq, .int .i64 stop, .slice R NR cr]), (w.heap.size + 1, 24, #[.string s2, .slice A2 ps2.length c2]), (w.heap.size, 24, #[.string s, .slice A ps.length c])]) := Lib.hid G1
  clear hb1 G1 F0
  go_wp2_with fail
  refine (brakeSmall_any s hs ps A c hl _ (Fr.lies HA.out F1.out)).mono ?_
  rintro e w2 ⟨rfl, hb2⟩
  rw [HS1.out]
  clear k0_0 k0_1 kf0 kg0 kz0 k1_0 k1_1 kf1 kg1 kz1 k2_0 k2_1 k2_2 k2_3 k2_4 k2_5 k2_6 kz2
  have G2 := Fr.call F1.out hb2
  obtain ⟨k0_0, k0_1, kf0, kg0⟩ := (G2.get 2 rfl).two
  have kz0 := (G2.get 2 rfl).lt
  obtain ⟨k1_0, k1_1, kf1, kg1⟩ := (G2.get 1 rfl).two
  have kz1 := (G2.get 1 rfl).lt
  have k2_0 := (G2.get 0 rfl).cell 0
  have k2_1 := (G2.get 0 rfl).cell 1
  have k2_2 := (G2.get 0 rfl).cell 2
  have k2_3 := (G2.get 0 rfl).cell 3
  have k2_4 := (G2.get 0 rfl).cell 4
  have k2_5 := (G2.get 0 rfl).cell 5
  have k2_6 := (G2.get 0 rfl).cell 6
  have kz2 := (G2.get 0 rfl).lt
  have F2 : Hid (Fr w _ [(w.heap.size + 1 + 1, 31, #[.int .i64 b.brk, .int .i64 b.drag, .int .i64 b.drv, .int .i64 p, .int .i64 sq, .int .i64 stop, .slice R NR cr]), (w.heap.size + 1, 24, #[.string s2, .slice A2 ps2.length c2]), (w.heap.size, 24, #[.string s, .slice A ps.length c])]) := Lib.hid G2
  clear hb2 G2 F1
  go_wp2_with fail
  refine (brakeSmall_any s2 hs2 ps2 A2 c2 hl2 _ (Fr.lies HA2.out F2.out)).mono ?_
  rintro e w3 ⟨rfl, hb3⟩
  rw [HS2.out]
  clear k0_0 k0_1 kf0 kg0 kz0 k1_0 k1_1 kf1 kg1 kz1 k2_0 k2_1 k2_2 k2_3 k2_4 k2_5 k2_6 kz2
  have G3 := Fr.call F2.out hb3
  obtain ⟨k0_0, k0_1, kf0, kg0⟩ := (G3.get 2 rfl).two
  have kz0 := (G3.get 2 rfl).lt
  obtain ⟨k1_0, k1_1, kf1, kg1⟩ := (G3.get 1 rfl).two
  have kz1 := (G3.get 1 rfl).lt
  have k2_0 := (G3.get 0 rfl).cell 0
  have k2_1 := (G3.get 0 rfl).cell 1
  have k2_2 := (G3.get 0 rfl).cell 2
  have k2_3 := (G3.get 0 rfl).cell 3
  have k2_4 := (G3.get 0 rfl).cell 4
  have k2_5 := (G3.get 0 rfl).cell 5
  have k2_6 := (G3.get 0 rfl).cell 6
  have kz2 := (G3.get 0 rfl).lt
  have F3 : Hid (Fr w _ [(w.heap.size + 1 + 1, 31, #[.int .i64 b.brk, .int .i64 b.drag, .int .i64 b.drv, .int .i64 p, .int .i64 sq, .int .i64 stop, .slice R NR cr]), (w.heap.size + 1, 24, #[.string s2, .slice A2 ps2.length c2]), (w.heap.size, 24, #[.string s, .slice A ps.length c])]) := Lib.hid G3
  clear hb3 G3 F2
  go_wp2_with fail
  refine (refCheckSystem_any b _).mono ?_
  rintro e w4 ⟨rfl, hb4⟩
  rw [HSY.out]
  clear k0_0 k0_1 kf0 kg0 kz0 k1_0 k1_1 kf1 kg1 kz1 k2_0 k2_1 k2_2 k2_3 k2_4 k2_5 k2_6 kz2
  have G4 := Fr.call F3.out hb4
  obtain ⟨k0_0, k0_1, kf0, kg0⟩ := (G4.get 2 rfl).two
  have kz0 := (G4.get 2 rfl).lt
  obtain ⟨k1_0, k1_1, kf1, kg1⟩ := (G4.get 1 rfl).two
  have kz1 := (G4.get 1 rfl).lt
  have k2_0 := (G4.get 0 rfl).cell 0
  have k2_1 := (G4.get 0 rfl).cell 1
  have k2_2 := (G4.get 0 rfl).cell 2
  have k2_3 := (G4.get 0 rfl).cell 3
  have k2_4 := (G4.get 0 rfl).cell 4
  have k2_5 := (G4.get 0 rfl).cell 5
  have k2_6 := (G4.get 0 rfl).cell 6
  have kz2 := (G4.get 0 rfl).lt
  have F4 : Hid (Fr w _ [(w.heap.size + 1 + 1, 31, #[.int .i64 b.brk, .int .i64 b.drag, .int .i64 b.drv, .int .i64 p, .int .i64 sq, .int .i64 stop, .slice R NR cr]), (w.heap.size + 1, 24, #[.string s2, .slice A2 ps2.length c2]), (w.heap.size, 24, #[.string s, .slice A ps.length c])]) := Lib.hid G4
  clear hb4 G4 F3
  go_wp2_with fail
  refine (StopErr_any s2 ps2 A2 c2 (by omega) stop _ (Fr.lies HA2.out F4.out)).mono ?_
  rintro e w5 ⟨rfl, hb5⟩
  rw [HST.out]
  clear k0_0 k0_1 kf0 kg0 kz0 k1_0 k1_1 kf1 kg1 kz1 k2_0 k2_1 k2_2 k2_3 k2_4 k2_5 k2_6 kz2
  have G5 := Fr.call F4.out hb5
  obtain ⟨k0_0, k0_1, kf0, kg0⟩ := (G5.get 2 rfl).two
  have kz0 := (G5.get 2 rfl).lt
  obtain ⟨k1_0, k1_1, kf1, kg1⟩ := (G5.get 1 rfl).two
  have kz1 := (G5.get 1 rfl).lt
  have k2_0 := (G5.get 0 rfl).cell 0
  have k2_1 := (G5.get 0 rfl).cell 1
  have k2_2 := (G5.get 0 rfl).cell 2
  have k2_3 := (G5.get 0 rfl).cell 3
  have k2_4 := (G5.get 0 rfl).cell 4
  have k2_5 := (G5.get 0 rfl).cell 5
  have k2_6 := (G5.get 0 rfl).cell 6
  have kz2 := (G5.get 0 rfl).lt
  have F5 : Hid (Fr w _ [(w.heap.size + 1 + 1, 31, #[.int .i64 b.brk, .int .i64 b.drag, .int .i64 b.drv, .int .i64 p, .int .i64 sq, .int .i64 stop, .slice R NR cr]), (w.heap.size + 1, 24, #[.string s2, .slice A2 ps2.length c2]), (w.heap.size, 24, #[.string s, .slice A ps.length c])]) := Lib.hid G5
  clear hb5 G5 F4
  go_wp2_with fail
  refine (StateErr_any s2 ps2 A2 c2 (by omega) p sq _).mono ?_
  rintro e w6 ⟨rfl, hb6⟩
  rw [HSE.out]
  clear k0_0 k0_1 kf0 kg0 kz0 k1_0 k1_1 kf1 kg1 kz1 k2_0 k2_1 k2_2 k2_3 k2_4 k2_5 k2_6 kz2
  have G6 := Fr.call F5.out hb6
  obtain ⟨k0_0, k0_1, kf0, kg0⟩ := (G6.get 2 rfl).two
  have kz0 := (G6.get 2 rfl).lt
  obtain ⟨k1_0, k1_1, kf1, kg1⟩ := (G6.get 1 rfl).two
  have kz1 := (G6.get 1 rfl).lt
  have k2_0 := (G6.get 0 rfl).cell 0
  have k2_1 := (G6.get 0 rfl).cell 1
  have k2_2 := (G6.get 0 rfl).cell 2
  have k2_3 := (G6.get 0 rfl).cell 3
  have k2_4 := (G6.get 0 rfl).cell 4
  have k2_5 := (G6.get 0 rfl).cell 5
  have k2_6 := (G6.get 0 rfl).cell 6
  have kz2 := (G6.get 0 rfl).lt
  have F6 : Hid (Fr w _ [(w.heap.size + 1 + 1, 31, #[.int .i64 b.brk, .int .i64 b.drag, .int .i64 b.drv, .int .i64 p, .int .i64 sq, .int .i64 stop, .slice R NR cr]), (w.heap.size + 1, 24, #[.string s2, .slice A2 ps2.length c2]), (w.heap.size, 24, #[.string s, .slice A ps.length c])]) := Lib.hid G6
  clear hb6 G6 F5
  go_wp2_with fail
  go_ret
  exact ⟨rfl, F6.out.bl⟩

set_option maxHeartbeats 8000000 in
set_option maxRecDepth 100000 in
theorem tg_end7 (s : ByteArray) (hs : s.size ≤ maxLen) (ps : List Bp) (A : Option Addr) (c : Nat) (hg : HdOk ⟨A, c⟩) (hl : ps.length ≤ maxLen) (s2 : ByteArray) (hs2 : s2.size ≤ maxLen) (ps2 : List Bp) (A2 : Option Addr) (c2 : Nat) (hg2 : HdOk ⟨A2, c2⟩) (hl2 : ps2.length ≤ maxLen) (b : Bs) (l : List Int) (NR : Nat) (hNR : l.length = NR) (R : Option Addr) (cr : Nat) (hgr : HdOk ⟨R, cr⟩) (hrc : NR ≤ cr) (hrm : cr ≤ maxLen) (p sq stop : Int) (h1 : smallB s ps = true) (h2 : smallB s2 ps2 = true) (h3 : ps.length + ps2.length ≤ 12) (h4 : sE b = 0) (h5 : stopE ps2 stop = 0) (h6 : stateE ps2 p sq = 0) (h7 : p < 1) (w : World) (hA : Lies w w.heap.size A (ps.flatMap pc)) (hA2 : Lies w w.heap.size A2 (ps2.flatMap pc)) (hR : Lies w w.heap.size R (ic l)) : Calls Try.prog 3 #[.agg #[.string s, .slice A ps.length c], .agg #[.string s2, .slice A2 ps2.length c2], .agg #[.int .i64 b.brk, .int .i64 b.drag, .int .i64 b.drv, .int .i64 p, .int .i64 sq, .int .i64 stop, .slice R NR cr]] w fun e w' => e = .returned (.bool true) ∧ Below w.heap.size w w' := by
  have F0 := Lib.hid (Fr.b3 w 24 #[.string s, .slice A ps.length c] 24 #[.string s2, .slice A2 ps2.length c2] 31 #[.int .i64 b.brk, .int .i64 b.drag, .int .i64 b.drv, .int .i64 p, .int .i64 sq, .int .i64 stop, .slice R NR cr])
  have HA := Lib.hid hA
  have HG := Lib.hid hg
  have HA2 := Lib.hid hA2
  have HG2 := Lib.hid hg2
  have HLR := Lib.hid hR
  have HGR := Lib.hid hgr
  have HNR := Lib.hid hNR
  clear hA hg hA2 hg2 hR hgr hNR
  have HS1 := Lib.hid h1
  have hz1 := small_iff.1 h1
  have HS2 := Lib.hid h2
  have hz2 := small_iff.1 h2
  have hw := IntWalk.i64_in ((ps.length : Int) + (ps2.length : Int)) (by omega)
  have h3i : ¬ (12 : Int) < (ps.length : Int) + (ps2.length : Int) := by omega
  have HSY := Lib.hid h4
  have HST := Lib.hid h5
  have HSE := Lib.hid h6
  have h7i : decide (p < 1) = true := decide_eq_true h7
  go_enter Try.func3, Try.ntmps3
  go_wp2_with fail
  refine (brakeAwake_any _).mono ?_
  rintro e w1 ⟨rfl, hb1⟩
  have G1 := Fr.call F0.out hb1
  obtain ⟨k0_0, k0_1, kf0, kg0⟩ := (G1.get 2 rfl).two
  have kz0 := (G1.get 2 rfl).lt
  obtain ⟨k1_0, k1_1, kf1, kg1⟩ := (G1.get 1 rfl).two
  have kz1 := (G1.get 1 rfl).lt
  have k2_0 := (G1.get 0 rfl).cell 0
  have k2_1 := (G1.get 0 rfl).cell 1
  have k2_2 := (G1.get 0 rfl).cell 2
  have k2_3 := (G1.get 0 rfl).cell 3
  have k2_4 := (G1.get 0 rfl).cell 4
  have k2_5 := (G1.get 0 rfl).cell 5
  have k2_6 := (G1.get 0 rfl).cell 6
  have kz2 := (G1.get 0 rfl).lt
  have F1 : Hid (Fr w _ [(w.heap.size + 1 + 1, 31, #[.int .i64 b.brk, .int .i64 b.drag, .int .i64 b.drv, .int .i64 p, .int .i64 sq, .int .i64 stop, .slice R NR cr]), (w.heap.size + 1, 24, #[.string s2, .slice A2 ps2.length c2]), (w.heap.size, 24, #[.string s, .slice A ps.length c])]) := Lib.hid G1
  clear hb1 G1 F0
  go_wp2_with fail
  refine (brakeSmall_any s hs ps A c hl _ (Fr.lies HA.out F1.out)).mono ?_
  rintro e w2 ⟨rfl, hb2⟩
  rw [HS1.out]
  clear k0_0 k0_1 kf0 kg0 kz0 k1_0 k1_1 kf1 kg1 kz1 k2_0 k2_1 k2_2 k2_3 k2_4 k2_5 k2_6 kz2
  have G2 := Fr.call F1.out hb2
  obtain ⟨k0_0, k0_1, kf0, kg0⟩ := (G2.get 2 rfl).two
  have kz0 := (G2.get 2 rfl).lt
  obtain ⟨k1_0, k1_1, kf1, kg1⟩ := (G2.get 1 rfl).two
  have kz1 := (G2.get 1 rfl).lt
  have k2_0 := (G2.get 0 rfl).cell 0
  have k2_1 := (G2.get 0 rfl).cell 1
  have k2_2 := (G2.get 0 rfl).cell 2
  have k2_3 := (G2.get 0 rfl).cell 3
  have k2_4 := (G2.get 0 rfl).cell 4
  have k2_5 := (G2.get 0 rfl).cell 5
  have k2_6 := (G2.get 0 rfl).cell 6
  have kz2 := (G2.get 0 rfl).lt
  have F2 : Hid (Fr w _ [(w.heap.size + 1 + 1, 31, #[.int .i64 b.brk, .int .i64 b.drag, .int .i64 b.drv, .int .i64 p, .int .i64 sq, .int .i64 stop, .slice R NR cr]), (w.heap.size + 1, 24, #[.string s2, .slice A2 ps2.length c2]), (w.heap.size, 24, #[.string s, .slice A ps.length c])]) := Lib.hid G2
  clear hb2 G2 F1
  go_wp2_with fail
  refine (brakeSmall_any s2 hs2 ps2 A2 c2 hl2 _ (Fr.lies HA2.out F2.out)).mono ?_
  rintro e w3 ⟨rfl, hb3⟩
  rw [HS2.out]
  clear k0_0 k0_1 kf0 kg0 kz0 k1_0 k1_1 kf1 kg1 kz1 k2_0 k2_1 k2_2 k2_3 k2_4 k2_5 k2_6 kz2
  have G3 := Fr.call F2.out hb3
  obtain ⟨k0_0, k0_1, kf0, kg0⟩ := (G3.get 2 rfl).two
  have kz0 := (G3.get 2 rfl).lt
  obtain ⟨k1_0, k1_1, kf1, kg1⟩ := (G3.get 1 rfl).two
  have kz1 := (G3.get 1 rfl).lt
  have k2_0 := (G3.get 0 rfl).cell 0
  have k2_1 := (G3.get 0 rfl).cell 1
  have k2_2 := (G3.get 0 rfl).cell 2
  have k2_3 := (G3.get 0 rfl).cell 3
  have k2_4 := (G3.get 0 rfl).cell 4
  have k2_5 := (G3.get 0 rfl).cell 5
  have k2_6 := (G3.get 0 rfl).cell 6
  have kz2 := (G3.get 0 rfl).lt
  have F3 : Hid (Fr w _ [(w.heap.size + 1 + 1, 31, #[.int .i64 b.brk, .int .i64 b.drag, .int .i64 b.drv, .int .i64 p, .int .i64 sq, .int .i64 stop, .slice R NR cr]), (w.heap.size + 1, 24, #[.string s2, .slice A2 ps2.length c2]), (w.heap.size, 24, #[.string s, .slice A ps.length c])]) := Lib.hid G3
  clear hb3 G3 F2
  go_wp2_with fail
  refine (refCheckSystem_any b _).mono ?_
  rintro e w4 ⟨rfl, hb4⟩
  rw [HSY.out]
  clear k0_0 k0_1 kf0 kg0 kz0 k1_0 k1_1 kf1 kg1 kz1 k2_0 k2_1 k2_2 k2_3 k2_4 k2_5 k2_6 kz2
  have G4 := Fr.call F3.out hb4
  obtain ⟨k0_0, k0_1, kf0, kg0⟩ := (G4.get 2 rfl).two
  have kz0 := (G4.get 2 rfl).lt
  obtain ⟨k1_0, k1_1, kf1, kg1⟩ := (G4.get 1 rfl).two
  have kz1 := (G4.get 1 rfl).lt
  have k2_0 := (G4.get 0 rfl).cell 0
  have k2_1 := (G4.get 0 rfl).cell 1
  have k2_2 := (G4.get 0 rfl).cell 2
  have k2_3 := (G4.get 0 rfl).cell 3
  have k2_4 := (G4.get 0 rfl).cell 4
  have k2_5 := (G4.get 0 rfl).cell 5
  have k2_6 := (G4.get 0 rfl).cell 6
  have kz2 := (G4.get 0 rfl).lt
  have F4 : Hid (Fr w _ [(w.heap.size + 1 + 1, 31, #[.int .i64 b.brk, .int .i64 b.drag, .int .i64 b.drv, .int .i64 p, .int .i64 sq, .int .i64 stop, .slice R NR cr]), (w.heap.size + 1, 24, #[.string s2, .slice A2 ps2.length c2]), (w.heap.size, 24, #[.string s, .slice A ps.length c])]) := Lib.hid G4
  clear hb4 G4 F3
  go_wp2_with fail
  refine (StopErr_any s2 ps2 A2 c2 (by omega) stop _ (Fr.lies HA2.out F4.out)).mono ?_
  rintro e w5 ⟨rfl, hb5⟩
  rw [HST.out]
  clear k0_0 k0_1 kf0 kg0 kz0 k1_0 k1_1 kf1 kg1 kz1 k2_0 k2_1 k2_2 k2_3 k2_4 k2_5 k2_6 kz2
  have G5 := Fr.call F4.out hb5
  obtain ⟨k0_0, k0_1, kf0, kg0⟩ := (G5.get 2 rfl).two
  have kz0 := (G5.get 2 rfl).lt
  obtain ⟨k1_0, k1_1, kf1, kg1⟩ := (G5.get 1 rfl).two
  have kz1 := (G5.get 1 rfl).lt
  have k2_0 := (G5.get 0 rfl).cell 0
  have k2_1 := (G5.get 0 rfl).cell 1
  have k2_2 := (G5.get 0 rfl).cell 2
  have k2_3 := (G5.get 0 rfl).cell 3
  have k2_4 := (G5.get 0 rfl).cell 4
  have k2_5 := (G5.get 0 rfl).cell 5
  have k2_6 := (G5.get 0 rfl).cell 6
  have kz2 := (G5.get 0 rfl).lt
  have F5 : Hid (Fr w _ [(w.heap.size + 1 + 1, 31, #[.int .i64 b.brk, .int .i64 b.drag, .int .i64 b.drv, .int .i64 p, .int .i64 sq, .int .i64 stop, .slice R NR cr]), (w.heap.size + 1, 24, #[.string s2, .slice A2 ps2.length c2]), (w.heap.size, 24, #[.string s, .slice A ps.length c])]) := Lib.hid G5
  clear hb5 G5 F4
  go_wp2_with fail
  refine (StateErr_any s2 ps2 A2 c2 (by omega) p sq _).mono ?_
  rintro e w6 ⟨rfl, hb6⟩
  rw [HSE.out]
  clear k0_0 k0_1 kf0 kg0 kz0 k1_0 k1_1 kf1 kg1 kz1 k2_0 k2_1 k2_2 k2_3 k2_4 k2_5 k2_6 kz2
  have G6 := Fr.call F5.out hb6
  obtain ⟨k0_0, k0_1, kf0, kg0⟩ := (G6.get 2 rfl).two
  have kz0 := (G6.get 2 rfl).lt
  obtain ⟨k1_0, k1_1, kf1, kg1⟩ := (G6.get 1 rfl).two
  have kz1 := (G6.get 1 rfl).lt
  have k2_0 := (G6.get 0 rfl).cell 0
  have k2_1 := (G6.get 0 rfl).cell 1
  have k2_2 := (G6.get 0 rfl).cell 2
  have k2_3 := (G6.get 0 rfl).cell 3
  have k2_4 := (G6.get 0 rfl).cell 4
  have k2_5 := (G6.get 0 rfl).cell 5
  have k2_6 := (G6.get 0 rfl).cell 6
  have kz2 := (G6.get 0 rfl).lt
  have F6 : Hid (Fr w _ [(w.heap.size + 1 + 1, 31, #[.int .i64 b.brk, .int .i64 b.drag, .int .i64 b.drv, .int .i64 p, .int .i64 sq, .int .i64 stop, .slice R NR cr]), (w.heap.size + 1, 24, #[.string s2, .slice A2 ps2.length c2]), (w.heap.size, 24, #[.string s, .slice A ps.length c])]) := Lib.hid G6
  clear hb6 G6 F5
  go_wp2_with fail
  go_ret
  exact ⟨rfl, F6.out.bl⟩

set_option maxHeartbeats 8000000 in
set_option maxRecDepth 100000 in
theorem tg_end8 (s : ByteArray) (hs : s.size ≤ maxLen) (ps : List Bp) (A : Option Addr) (c : Nat) (hg : HdOk ⟨A, c⟩) (hl : ps.length ≤ maxLen) (s2 : ByteArray) (hs2 : s2.size ≤ maxLen) (ps2 : List Bp) (A2 : Option Addr) (c2 : Nat) (hg2 : HdOk ⟨A2, c2⟩) (hl2 : ps2.length ≤ maxLen) (b : Bs) (l : List Int) (NR : Nat) (hNR : l.length = NR) (R : Option Addr) (cr : Nat) (hgr : HdOk ⟨R, cr⟩) (hrc : NR ≤ cr) (hrm : cr ≤ maxLen) (p sq stop : Int) (h1 : smallB s ps = true) (h2 : smallB s2 ps2 = true) (h3 : ps.length + ps2.length ≤ 12) (h4 : sE b = 0) (h5 : stopE ps2 stop = 0) (h6 : stateE ps2 p sq = 0) (h7 : 1 ≤ p) (h8 : stop < p) (w : World) (hA : Lies w w.heap.size A (ps.flatMap pc)) (hA2 : Lies w w.heap.size A2 (ps2.flatMap pc)) (hR : Lies w w.heap.size R (ic l)) : Calls Try.prog 3 #[.agg #[.string s, .slice A ps.length c], .agg #[.string s2, .slice A2 ps2.length c2], .agg #[.int .i64 b.brk, .int .i64 b.drag, .int .i64 b.drv, .int .i64 p, .int .i64 sq, .int .i64 stop, .slice R NR cr]] w fun e w' => e = .returned (.bool true) ∧ Below w.heap.size w w' := by
  have F0 := Lib.hid (Fr.b3 w 24 #[.string s, .slice A ps.length c] 24 #[.string s2, .slice A2 ps2.length c2] 31 #[.int .i64 b.brk, .int .i64 b.drag, .int .i64 b.drv, .int .i64 p, .int .i64 sq, .int .i64 stop, .slice R NR cr])
  have HA := Lib.hid hA
  have HG := Lib.hid hg
  have HA2 := Lib.hid hA2
  have HG2 := Lib.hid hg2
  have HLR := Lib.hid hR
  have HGR := Lib.hid hgr
  have HNR := Lib.hid hNR
  clear hA hg hA2 hg2 hR hgr hNR
  have HS1 := Lib.hid h1
  have hz1 := small_iff.1 h1
  have HS2 := Lib.hid h2
  have hz2 := small_iff.1 h2
  have hw := IntWalk.i64_in ((ps.length : Int) + (ps2.length : Int)) (by omega)
  have h3i : ¬ (12 : Int) < (ps.length : Int) + (ps2.length : Int) := by omega
  have HSY := Lib.hid h4
  have HST := Lib.hid h5
  have HSE := Lib.hid h6
  have h7i : ¬ p < 1 := by omega
  have h8i : decide (stop < p) = true := decide_eq_true h8
  go_enter Try.func3, Try.ntmps3
  go_wp2_with fail
  refine (brakeAwake_any _).mono ?_
  rintro e w1 ⟨rfl, hb1⟩
  have G1 := Fr.call F0.out hb1
  obtain ⟨k0_0, k0_1, kf0, kg0⟩ := (G1.get 2 rfl).two
  have kz0 := (G1.get 2 rfl).lt
  obtain ⟨k1_0, k1_1, kf1, kg1⟩ := (G1.get 1 rfl).two
  have kz1 := (G1.get 1 rfl).lt
  have k2_0 := (G1.get 0 rfl).cell 0
  have k2_1 := (G1.get 0 rfl).cell 1
  have k2_2 := (G1.get 0 rfl).cell 2
  have k2_3 := (G1.get 0 rfl).cell 3
  have k2_4 := (G1.get 0 rfl).cell 4
  have k2_5 := (G1.get 0 rfl).cell 5
  have k2_6 := (G1.get 0 rfl).cell 6
  have kz2 := (G1.get 0 rfl).lt
  have F1 : Hid (Fr w _ [(w.heap.size + 1 + 1, 31, #[.int .i64 b.brk, .int .i64 b.drag, .int .i64 b.drv, .int .i64 p, .int .i64 sq, .int .i64 stop, .slice R NR cr]), (w.heap.size + 1, 24, #[.string s2, .slice A2 ps2.length c2]), (w.heap.size, 24, #[.string s, .slice A ps.length c])]) := Lib.hid G1
  clear hb1 G1 F0
  go_wp2_with fail
  refine (brakeSmall_any s hs ps A c hl _ (Fr.lies HA.out F1.out)).mono ?_
  rintro e w2 ⟨rfl, hb2⟩
  rw [HS1.out]
  clear k0_0 k0_1 kf0 kg0 kz0 k1_0 k1_1 kf1 kg1 kz1 k2_0 k2_1 k2_2 k2_3 k2_4 k2_5 k2_6 kz2
  have G2 := Fr.call F1.out hb2
  obtain ⟨k0_0, k0_1, kf0, kg0⟩ := (G2.get 2 rfl).two
  have kz0 := (G2.get 2 rfl).lt
  obtain ⟨k1_0, k1_1, kf1, kg1⟩ := (G2.get 1 rfl).two
  have kz1 := (G2.get 1 rfl).lt
  have k2_0 := (G2.get 0 rfl).cell 0
  have k2_1 := (G2.get 0 rfl).cell 1
  have k2_2 := (G2.get 0 rfl).cell 2
  have k2_3 := (G2.get 0 rfl).cell 3
  have k2_4 := (G2.get 0 rfl).cell 4
  have k2_5 := (G2.get 0 rfl).cell 5
  have k2_6 := (G2.get 0 rfl).cell 6
  have kz2 := (G2.get 0 rfl).lt
  have F2 : Hid (Fr w _ [(w.heap.size + 1 + 1, 31, #[.int .i64 b.brk, .int .i64 b.drag, .int .i64 b.drv, .int .i64 p, .int .i64 sq, .int .i64 stop, .slice R NR cr]), (w.heap.size + 1, 24, #[.string s2, .slice A2 ps2.length c2]), (w.heap.size, 24, #[.string s, .slice A ps.length c])]) := Lib.hid G2
  clear hb2 G2 F1
  go_wp2_with fail
  refine (brakeSmall_any s2 hs2 ps2 A2 c2 hl2 _ (Fr.lies HA2.out F2.out)).mono ?_
  rintro e w3 ⟨rfl, hb3⟩
  rw [HS2.out]
  clear k0_0 k0_1 kf0 kg0 kz0 k1_0 k1_1 kf1 kg1 kz1 k2_0 k2_1 k2_2 k2_3 k2_4 k2_5 k2_6 kz2
  have G3 := Fr.call F2.out hb3
  obtain ⟨k0_0, k0_1, kf0, kg0⟩ := (G3.get 2 rfl).two
  have kz0 := (G3.get 2 rfl).lt
  obtain ⟨k1_0, k1_1, kf1, kg1⟩ := (G3.get 1 rfl).two
  have kz1 := (G3.get 1 rfl).lt
  have k2_0 := (G3.get 0 rfl).cell 0
  have k2_1 := (G3.get 0 rfl).cell 1
  have k2_2 := (G3.get 0 rfl).cell 2
  have k2_3 := (G3.get 0 rfl).cell 3
  have k2_4 := (G3.get 0 rfl).cell 4
  have k2_5 := (G3.get 0 rfl).cell 5
  have k2_6 := (G3.get 0 rfl).cell 6
  have kz2 := (G3.get 0 rfl).lt
  have F3 : Hid (Fr w _ [(w.heap.size + 1 + 1, 31, #[.int .i64 b.brk, .int .i64 b.drag, .int .i64 b.drv, .int .i64 p, .int .i64 sq, .int .i64 stop, .slice R NR cr]), (w.heap.size + 1, 24, #[.string s2, .slice A2 ps2.length c2]), (w.heap.size, 24, #[.string s, .slice A ps.length c])]) := Lib.hid G3
  clear hb3 G3 F2
  go_wp2_with fail
  refine (refCheckSystem_any b _).mono ?_
  rintro e w4 ⟨rfl, hb4⟩
  rw [HSY.out]
  clear k0_0 k0_1 kf0 kg0 kz0 k1_0 k1_1 kf1 kg1 kz1 k2_0 k2_1 k2_2 k2_3 k2_4 k2_5 k2_6 kz2
  have G4 := Fr.call F3.out hb4
  obtain ⟨k0_0, k0_1, kf0, kg0⟩ := (G4.get 2 rfl).two
  have kz0 := (G4.get 2 rfl).lt
  obtain ⟨k1_0, k1_1, kf1, kg1⟩ := (G4.get 1 rfl).two
  have kz1 := (G4.get 1 rfl).lt
  have k2_0 := (G4.get 0 rfl).cell 0
  have k2_1 := (G4.get 0 rfl).cell 1
  have k2_2 := (G4.get 0 rfl).cell 2
  have k2_3 := (G4.get 0 rfl).cell 3
  have k2_4 := (G4.get 0 rfl).cell 4
  have k2_5 := (G4.get 0 rfl).cell 5
  have k2_6 := (G4.get 0 rfl).cell 6
  have kz2 := (G4.get 0 rfl).lt
  have F4 : Hid (Fr w _ [(w.heap.size + 1 + 1, 31, #[.int .i64 b.brk, .int .i64 b.drag, .int .i64 b.drv, .int .i64 p, .int .i64 sq, .int .i64 stop, .slice R NR cr]), (w.heap.size + 1, 24, #[.string s2, .slice A2 ps2.length c2]), (w.heap.size, 24, #[.string s, .slice A ps.length c])]) := Lib.hid G4
  clear hb4 G4 F3
  go_wp2_with fail
  refine (StopErr_any s2 ps2 A2 c2 (by omega) stop _ (Fr.lies HA2.out F4.out)).mono ?_
  rintro e w5 ⟨rfl, hb5⟩
  rw [HST.out]
  clear k0_0 k0_1 kf0 kg0 kz0 k1_0 k1_1 kf1 kg1 kz1 k2_0 k2_1 k2_2 k2_3 k2_4 k2_5 k2_6 kz2
  have G5 := Fr.call F4.out hb5
  obtain ⟨k0_0, k0_1, kf0, kg0⟩ := (G5.get 2 rfl).two
  have kz0 := (G5.get 2 rfl).lt
  obtain ⟨k1_0, k1_1, kf1, kg1⟩ := (G5.get 1 rfl).two
  have kz1 := (G5.get 1 rfl).lt
  have k2_0 := (G5.get 0 rfl).cell 0
  have k2_1 := (G5.get 0 rfl).cell 1
  have k2_2 := (G5.get 0 rfl).cell 2
  have k2_3 := (G5.get 0 rfl).cell 3
  have k2_4 := (G5.get 0 rfl).cell 4
  have k2_5 := (G5.get 0 rfl).cell 5
  have k2_6 := (G5.get 0 rfl).cell 6
  have kz2 := (G5.get 0 rfl).lt
  have F5 : Hid (Fr w _ [(w.heap.size + 1 + 1, 31, #[.int .i64 b.brk, .int .i64 b.drag, .int .i64 b.drv, .int .i64 p, .int .i64 sq, .int .i64 stop, .slice R NR cr]), (w.heap.size + 1, 24, #[.string s2, .slice A2 ps2.length c2]), (w.heap.size, 24, #[.string s, .slice A ps.length c])]) := Lib.hid G5
  clear hb5 G5 F4
  go_wp2_with fail
  refine (StateErr_any s2 ps2 A2 c2 (by omega) p sq _).mono ?_
  rintro e w6 ⟨rfl, hb6⟩
  rw [HSE.out]
  clear k0_0 k0_1 kf0 kg0 kz0 k1_0 k1_1 kf1 kg1 kz1 k2_0 k2_1 k2_2 k2_3 k2_4 k2_5 k2_6 kz2
  have G6 := Fr.call F5.out hb6
  obtain ⟨k0_0, k0_1, kf0, kg0⟩ := (G6.get 2 rfl).two
  have kz0 := (G6.get 2 rfl).lt
  obtain ⟨k1_0, k1_1, kf1, kg1⟩ := (G6.get 1 rfl).two
  have kz1 := (G6.get 1 rfl).lt
  have k2_0 := (G6.get 0 rfl).cell 0
  have k2_1 := (G6.get 0 rfl).cell 1
  have k2_2 := (G6.get 0 rfl).cell 2
  have k2_3 := (G6.get 0 rfl).cell 3
  have k2_4 := (G6.get 0 rfl).cell 4
  have k2_5 := (G6.get 0 rfl).cell 5
  have k2_6 := (G6.get 0 rfl).cell 6
  have kz2 := (G6.get 0 rfl).lt
  have F6 : Hid (Fr w _ [(w.heap.size + 1 + 1, 31, #[.int .i64 b.brk, .int .i64 b.drag, .int .i64 b.drv, .int .i64 p, .int .i64 sq, .int .i64 stop, .slice R NR cr]), (w.heap.size + 1, 24, #[.string s2, .slice A2 ps2.length c2]), (w.heap.size, 24, #[.string s, .slice A ps.length c])]) := Lib.hid G6
  clear hb6 G6 F5
  go_wp2_with fail
  go_ret
  exact ⟨rfl, F6.out.bl⟩
end Go.Proofs.Ytaghpemdcmjchaa
