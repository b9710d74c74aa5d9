
/-
  The walk of TopStatorNoStep.
-/
import Derived.Test.YtohldmmfnjfgmaaDoorTTopA
import Derived.Test.YtohldmmfnjfgmaaDoorTTopQ
import Derived.Test.YtohldmmfnjfgmaaDoorTPuD
import Derived.Test.YtohldmmfnjfgmaaDoorTHd
import Derived.Test.YtohldmmfnjfgmaaDoorTCp
namespace Go.Proofs.YtohldmmfnjfgmaaDoor
open Go.RowKit

theorem Lies.bk2' {w : World} {g : Nat} {t : TypeId} {a b : Value} (h : Bk w g t #[a, b]) : Lies w w.heap.size (some ⟨g, 0, none⟩) [a, b] := Lies.bk2 h
/-- Even at two right currents. -/
theorem even2_any (f t fl : T3) (hf : okT f = true) (ht : okT t = true) (hl : okT fl = true) (w : World) (g c : Nat) (h : Lies w w.heap.size (some ⟨g, 0, none⟩) [.int .i64 f.a, .int .i64 f.b, .int .i64 t.a, .int .i64 t.b]) :
    Calls Tryd.prog 47 #[.slice (some ⟨g, 0, none⟩) 2 c, (.agg #[.int .i64 fl.a, .int .i64 fl.b])] w fun e w' => e = .returned (.tuple #[.bool (evB [f, t] fl), .int .i64 0]) ∧ Below w.heap.size w w' :=
  Even_ok [f, t] (some ⟨g, 0, none⟩) c fl (by simp) (by simp) (by simp [hf, ht]) hl w h
/-- The force on a train over two sections with one current. -/
theorem force2_any (v fl : T3) (p len q : Int) (hp : 0 ≤ p ∧ p ≤ 500) (hl : 1 ≤ len ∧ len ≤ 500) (hv : okT v = true) (hf : okT fl = true) (hq : len * forceV v fl = q) (w : World) (A : Option Addr) (c g d : Nat) (hA : Lies w w.heap.size A (ic nsLs)) (h : Lies w w.heap.size (some ⟨g, 0, none⟩) [.int .i64 v.a, .int .i64 v.b, .int .i64 v.a, .int .i64 v.b]) :
    Calls Tryd.prog 51 #[.agg #[.slice A 2 c], .agg #[.int .i64 p, .int .i64 len], .agg #[.slice (some ⟨g, 0, none⟩) 2 d, .int .i64 fl.a, .int .i64 fl.b, .int .i64 0]] w fun e w' => e = .returned (.tuple #[.int .i64 q, .int .i64 0]) ∧ Below w.heap.size w w' := by
  have := ForceAt_ok nsLs A c p len [v, v] (some ⟨g, 0, none⟩) d fl 0 (ns_fed hp hl hv hf) w hA h
  rw [ns_frc hp hl, hq] at this
  exact this
def CopiedNs (w : World) (e : Ending) (w' : World) : Prop := ∃ g : Hd, e = .returned (.agg #[.slice g.A 2 g.c]) ∧ Lies w' w'.heap.size g.A (ic nsLs) ∧ HdOk g ∧ Below w.heap.size w w'
theorem copyNs_any (g : Nat) (w : World) (h : Bk w g 3 #[.int .i64 500, .int .i64 500]) : Calls Tryd.prog 52 #[.agg #[.slice (some ⟨g, 0, none⟩) 2 2]] w (CopiedNs w) :=
  CopyTrack_any nsLs ⟨some ⟨g, 0, none⟩, 2⟩ (by decide) (fun h => by cases h) w (Lies.bk2 h)

set_option maxHeartbeats 8000000 in
set_option maxRecDepth 100000 in
theorem tns_out0 (f t fl : T3) (n p len : Int) (h0 : smT f = false) (w : World) (hT : Tab w) : Calls Tryd.prog 7 #[.agg #[.int .i64 f.a, .int .i64 f.b, .int .i64 t.a, .int .i64 t.b, .int .i64 n], (.agg #[.int .i64 fl.a, .int .i64 fl.b]), .agg #[.int .i64 p, .int .i64 len]] w fun e w' => e = .returned (.bool true) ∧ Below w.heap.size w w' := by
  have F0 := Lib.hid (Fr.b3 w 84 #[.int .i64 f.a, .int .i64 f.b, .int .i64 t.a, .int .i64 t.b, .int .i64 n] 24 #[.int .i64 fl.a, .int .i64 fl.b] 85 #[.int .i64 p, .int .i64 len])
  have T0 := Lib.hid (((hT.new (.cells #[.int .i64 f.a, .int .i64 f.b, .int .i64 t.a, .int .i64 t.b, .int .i64 n] 84)).new (.cells #[.int .i64 fl.a, .int .i64 fl.b] 24)).new (.cells #[.int .i64 p, .int .i64 len] 85))
  have TW := Lib.hid hT
  clear hT
  have H0 := Lib.hid h0
  clear h0
  go_enter Tryd.func7, Tryd.ntmps7
  go_wp2_with fail
  refine (topAwake_any _ T0.out).mono ?_
  rintro e w1 ⟨rfl, hb1⟩
  have G1 := Fr.call F0.out hb1
  have k0_0 := (G1.get 2 rfl).cell 0
  have k0_1 := (G1.get 2 rfl).cell 1
  have k0_2 := (G1.get 2 rfl).cell 2
  have k0_3 := (G1.get 2 rfl).cell 3
  have k0_4 := (G1.get 2 rfl).cell 4
  have kz0 := (G1.get 2 rfl).lt
  obtain ⟨k1_0, k1_1, kf1, kg1⟩ := (G1.get 1 rfl).two
  have kz1 := (G1.get 1 rfl).lt
  obtain ⟨k2_0, k2_1, kf2, kg2⟩ := (G1.get 0 rfl).two
  have kz2 := (G1.get 0 rfl).lt
  have F1 : Hid (Fr w _ [(w.heap.size + 1 + 1, 85, #[.int .i64 p, .int .i64 len]), (w.heap.size + 1, 24, #[.int .i64 fl.a, .int .i64 fl.b]), (w.heap.size, 84, #[.int .i64 f.a, .int .i64 f.b, .int .i64 t.a, .int .i64 t.b, .int .i64 n])]) := Lib.hid G1
  clear hb1 G1 F0
  go_wp2_with fail
  refine (statorSmall_any f _).mono ?_
  rintro e w2 ⟨rfl, hb2⟩
  rw [H0.out]
  clear k0_0 k0_1 k0_2 k0_3 k0_4 kz0 k1_0 k1_1 kf1 kg1 kz1 k2_0 k2_1 kf2 kg2 kz2
  have G2 := Fr.call F1.out hb2
  have k0_0 := (G2.get 2 rfl).cell 0
  have k0_1 := (G2.get 2 rfl).cell 1
  have k0_2 := (G2.get 2 rfl).cell 2
  have k0_3 := (G2.get 2 rfl).cell 3
  have k0_4 := (G2.get 2 rfl).cell 4
  have kz0 := (G2.get 2 rfl).lt
  obtain ⟨k1_0, k1_1, kf1, kg1⟩ := (G2.get 1 rfl).two
  have kz1 := (G2.get 1 rfl).lt
  obtain ⟨k2_0, k2_1, kf2, kg2⟩ := (G2.get 0 rfl).two
  have kz2 := (G2.get 0 rfl).lt
  have F2 : Hid (Fr w _ [(w.heap.size + 1 + 1, 85, #[.int .i64 p, .int .i64 len]), (w.heap.size + 1, 24, #[.int .i64 fl.a, .int .i64 fl.b]), (w.heap.size, 84, #[.int .i64 f.a, .int .i64 f.b, .int .i64 t.a, .int .i64 t.b, .int .i64 n])]) := Lib.hid G2
  clear hb2 G2 F1
  go_wp2_with fail
  go_ret
  exact ⟨rfl, F2.out.bl⟩

set_option maxHeartbeats 8000000 in
set_option maxRecDepth 100000 in
theorem tns_out1 (f t fl : T3) (n p len : Int) (h0 : smT f = true) (h1 : smT t = false) (w : World) (hT : Tab w) : Calls Tryd.prog 7 #[.agg #[.int .i64 f.a, .int .i64 f.b, .int .i64 t.a, .int .i64 t.b, .int .i64 n], (.agg #[.int .i64 fl.a, .int .i64 fl.b]), .agg #[.int .i64 p, .int .i64 len]] w fun e w' => e = .returned (.bool true) ∧ Below w.heap.size w w' := by
  have F0 := Lib.hid (Fr.b3 w 84 #[.int .i64 f.a, .int .i64 f.b, .int .i64 t.a, .int .i64 t.b, .int .i64 n] 24 #[.int .i64 fl.a, .int .i64 fl.b] 85 #[.int .i64 p, .int .i64 len])
  have T0 := Lib.hid (((hT.new (.cells #[.int .i64 f.a, .int .i64 f.b, .int .i64 t.a, .int .i64 t.b, .int .i64 n] 84)).new (.cells #[.int .i64 fl.a, .int .i64 fl.b] 24)).new (.cells #[.int .i64 p, .int .i64 len] 85))
  have TW := Lib.hid hT
  clear hT
  have H0 := Lib.hid h0
  have H1 := Lib.hid h1
  clear h0 h1
  go_enter Tryd.func7, Tryd.ntmps7
  go_wp2_with fail
  refine (topAwake_any _ T0.out).mono ?_
  rintro e w1 ⟨rfl, hb1⟩
  have G1 := Fr.call F0.out hb1
  have k0_0 := (G1.get 2 rfl).cell 0
  have k0_1 := (G1.get 2 rfl).cell 1
  have k0_2 := (G1.get 2 rfl).cell 2
  have k0_3 := (G1.get 2 rfl).cell 3
  have k0_4 := (G1.get 2 rfl).cell 4
  have kz0 := (G1.get 2 rfl).lt
  obtain ⟨k1_0, k1_1, kf1, kg1⟩ := (G1.get 1 rfl).two
  have kz1 := (G1.get 1 rfl).lt
  obtain ⟨k2_0, k2_1, kf2, kg2⟩ := (G1.get 0 rfl).two
  have kz2 := (G1.get 0 rfl).lt
  have F1 : Hid (Fr w _ [(w.heap.size + 1 + 1, 85, #[.int .i64 p, .int .i64 len]), (w.heap.size + 1, 24, #[.int .i64 fl.a, .int .i64 fl.b]), (w.heap.size, 84, #[.int .i64 f.a, .int .i64 f.b, .int .i64 t.a, .int .i64 t.b, .int .i64 n])]) := Lib.hid G1
  clear hb1 G1 F0
  go_wp2_with fail
  refine (statorSmall_any f _).mono ?_
  rintro e w2 ⟨rfl, hb2⟩
  rw [H0.out]
  clear k0_0 k0_1 k0_2 k0_3 k0_4 kz0 k1_0 k1_1 kf1 kg1 kz1 k2_0 k2_1 kf2 kg2 kz2
  have G2 := Fr.call F1.out hb2
  have k0_0 := (G2.get 2 rfl).cell 0
  have k0_1 := (G2.get 2 rfl).cell 1
  have k0_2 := (G2.get 2 rfl).cell 2
  have k0_3 := (G2.get 2 rfl).cell 3
  have k0_4 := (G2.get 2 rfl).cell 4
  have kz0 := (G2.get 2 rfl).lt
  obtain ⟨k1_0, k1_1, kf1, kg1⟩ := (G2.get 1 rfl).two
  have kz1 := (G2.get 1 rfl).lt
  obtain ⟨k2_0, k2_1, kf2, kg2⟩ := (G2.get 0 rfl).two
  have kz2 := (G2.get 0 rfl).lt
  have F2 : Hid (Fr w _ [(w.heap.size + 1 + 1, 85, #[.int .i64 p, .int .i64 len]), (w.heap.size + 1, 24, #[.int .i64 fl.a, .int .i64 fl.b]), (w.heap.size, 84, #[.int .i64 f.a, .int .i64 f.b, .int .i64 t.a, .int .i64 t.b, .int .i64 n])]) := Lib.hid G2
  clear hb2 G2 F1
  go_wp2_with fail
  refine (statorSmall_any t _).mono ?_
  rintro e w3 ⟨rfl, hb3⟩
  rw [H1.out]
  clear k0_0 k0_1 k0_2 k0_3 k0_4 kz0 k1_0 k1_1 kf1 kg1 kz1 k2_0 k2_1 kf2 kg2 kz2
  have G3 := Fr.call F2.out hb3
  have k0_0 := (G3.get 2 rfl).cell 0
  have k0_1 := (G3.get 2 rfl).cell 1
  have k0_2 := (G3.get 2 rfl).cell 2
  have k0_3 := (G3.get 2 rfl).cell 3
  have k0_4 := (G3.get 2 rfl).cell 4
  have kz0 := (G3.get 2 rfl).lt
  obtain ⟨k1_0, k1_1, kf1, kg1⟩ := (G3.get 1 rfl).two
  have kz1 := (G3.get 1 rfl).lt
  obtain ⟨k2_0, k2_1, kf2, kg2⟩ := (G3.get 0 rfl).two
  have kz2 := (G3.get 0 rfl).lt
  have F3 : Hid (Fr w _ [(w.heap.size + 1 + 1, 85, #[.int .i64 p, .int .i64 len]), (w.heap.size + 1, 24, #[.int .i64 fl.a, .int .i64 fl.b]), (w.heap.size, 84, #[.int .i64 f.a, .int .i64 f.b, .int .i64 t.a, .int .i64 t.b, .int .i64 n])]) := Lib.hid G3
  clear hb3 G3 F2
  go_wp2_with fail
  go_ret
  exact ⟨rfl, F3.out.bl⟩

set_option maxHeartbeats 8000000 in
set_option maxRecDepth 100000 in
theorem tns_out2 (f t fl : T3) (n p len : Int) (h0 : smT f = true) (h1 : smT t = true) (h2 : smT fl = false) (w : World) (hT : Tab w) : Calls Tryd.prog 7 #[.agg #[.int .i64 f.a, .int .i64 f.b, .int .i64 t.a, .int .i64 t.b, .int .i64 n], (.agg #[.int .i64 fl.a, .int .i64 fl.b]), .agg #[.int .i64 p, .int .i64 len]] w fun e w' => e = .returned (.bool true) ∧ Below w.heap.size w w' := by
  have F0 := Lib.hid (Fr.b3 w 84 #[.int .i64 f.a, .int .i64 f.b, .int .i64 t.a, .int .i64 t.b, .int .i64 n] 24 #[.int .i64 fl.a, .int .i64 fl.b] 85 #[.int .i64 p, .int .i64 len])
  have T0 := Lib.hid (((hT.new (.cells #[.int .i64 f.a, .int .i64 f.b, .int .i64 t.a, .int .i64 t.b, .int .i64 n] 84)).new (.cells #[.int .i64 fl.a, .int .i64 fl.b] 24)).new (.cells #[.int .i64 p, .int .i64 len] 85))
  have TW := Lib.hid hT
  clear hT
  have H0 := Lib.hid h0
  have H1 := Lib.hid h1
  have H2 := Lib.hid h2
  clear h0 h1 h2
  go_enter Tryd.func7, Tryd.ntmps7
  go_wp2_with fail
  refine (topAwake_any _ T0.out).mono ?_
  rintro e w1 ⟨rfl, hb1⟩
  have G1 := Fr.call F0.out hb1
  have k0_0 := (G1.get 2 rfl).cell 0
  have k0_1 := (G1.get 2 rfl).cell 1
  have k0_2 := (G1.get 2 rfl).cell 2
  have k0_3 := (G1.get 2 rfl).cell 3
  have k0_4 := (G1.get 2 rfl).cell 4
  have kz0 := (G1.get 2 rfl).lt
  obtain ⟨k1_0, k1_1, kf1, kg1⟩ := (G1.get 1 rfl).two
  have kz1 := (G1.get 1 rfl).lt
  obtain ⟨k2_0, k2_1, kf2, kg2⟩ := (G1.get 0 rfl).two
  have kz2 := (G1.get 0 rfl).lt
  have F1 : Hid (Fr w _ [(w.heap.size + 1 + 1, 85, #[.int .i64 p, .int .i64 len]), (w.heap.size + 1, 24, #[.int .i64 fl.a, .int .i64 fl.b]), (w.heap.size, 84, #[.int .i64 f.a, .int .i64 f.b, .int .i64 t.a, .int .i64 t.b, .int .i64 n])]) := Lib.hid G1
  clear hb1 G1 F0
  go_wp2_with fail
  refine (statorSmall_any f _).mono ?_
  rintro e w2 ⟨rfl, hb2⟩
  rw [H0.out]
  clear k0_0 k0_1 k0_2 k0_3 k0_4 kz0 k1_0 k1_1 kf1 kg1 kz1 k2_0 k2_1 kf2 kg2 kz2
  have G2 := Fr.call F1.out hb2
  have k0_0 := (G2.get 2 rfl).cell 0
  have k0_1 := (G2.get 2 rfl).cell 1
  have k0_2 := (G2.get 2 rfl).cell 2
  have k0_3 := (G2.get 2 rfl).cell 3
  have k0_4 := (G2.get 2 rfl).cell 4
  have kz0 := (G2.get 2 rfl).lt
  obtain ⟨k1_0, k1_1, kf1, kg1⟩ := (G2.get 1 rfl).two
  have kz1 := (G2.get 1 rfl).lt
  obtain ⟨k2_0, k2_1, kf2, kg2⟩ := (G2.get 0 rfl).two
  have kz2 := (G2.get 0 rfl).lt
  have F2 : Hid (Fr w _ [(w.heap.size + 1 + 1, 85, #[.int .i64 p, .int .i64 len]), (w.heap.size + 1, 24, #[.int .i64 fl.a, .int .i64 fl.b]), (w.heap.size, 84, #[.int .i64 f.a, .int .i64 f.b, .int .i64 t.a, .int .i64 t.b, .int .i64 n])]) := Lib.hid G2
  clear hb2 G2 F1
  go_wp2_with fail
  refine (statorSmall_any t _).mono ?_
  rintro e w3 ⟨rfl, hb3⟩
  rw [H1.out]
  clear k0_0 k0_1 k0_2 k0_3 k0_4 kz0 k1_0 k1_1 kf1 kg1 kz1 k2_0 k2_1 kf2 kg2 kz2
  have G3 := Fr.call F2.out hb3
  have k0_0 := (G3.get 2 rfl).cell 0
  have k0_1 := (G3.get 2 rfl).cell 1
  have k0_2 := (G3.get 2 rfl).cell 2
  have k0_3 := (G3.get 2 rfl).cell 3
  have k0_4 := (G3.get 2 rfl).cell 4
  have kz0 := (G3.get 2 rfl).lt
  obtain ⟨k1_0, k1_1, kf1, kg1⟩ := (G3.get 1 rfl).two
  have kz1 := (G3.get 1 rfl).lt
  obtain ⟨k2_0, k2_1, kf2, kg2⟩ := (G3.get 0 rfl).two
  have kz2 := (G3.get 0 rfl).lt
  have F3 : Hid (Fr w _ [(w.heap.size + 1 + 1, 85, #[.int .i64 p, .int .i64 len]), (w.heap.size + 1, 24, #[.int .i64 fl.a, .int .i64 fl.b]), (w.heap.size, 84, #[.int .i64 f.a, .int .i64 f.b, .int .i64 t.a, .int .i64 t.b, .int .i64 n])]) := Lib.hid G3
  clear hb3 G3 F2
  go_wp2_with fail
  refine (statorSmall_any fl _).mono ?_
  rintro e w4 ⟨rfl, hb4⟩
  rw [H2.out]
  clear k0_0 k0_1 k0_2 k0_3 k0_4 kz0 k1_0 k1_1 kf1 kg1 kz1 k2_0 k2_1 kf2 kg2 kz2
  have G4 := Fr.call F3.out hb4
  have k0_0 := (G4.get 2 rfl).cell 0
  have k0_1 := (G4.get 2 rfl).cell 1
  have k0_2 := (G4.get 2 rfl).cell 2
  have k0_3 := (G4.get 2 rfl).cell 3
  have k0_4 := (G4.get 2 rfl).cell 4
  have kz0 := (G4.get 2 rfl).lt
  obtain ⟨k1_0, k1_1, kf1, kg1⟩ := (G4.get 1 rfl).two
  have kz1 := (G4.get 1 rfl).lt
  obtain ⟨k2_0, k2_1, kf2, kg2⟩ := (G4.get 0 rfl).two
  have kz2 := (G4.get 0 rfl).lt
  have F4 : Hid (Fr w _ [(w.heap.size + 1 + 1, 85, #[.int .i64 p, .int .i64 len]), (w.heap.size + 1, 24, #[.int .i64 fl.a, .int .i64 fl.b]), (w.heap.size, 84, #[.int .i64 f.a, .int .i64 f.b, .int .i64 t.a, .int .i64 t.b, .int .i64 n])]) := Lib.hid G4
  clear hb4 G4 F3
  go_wp2_with fail
  go_ret
  exact ⟨rfl, F4.out.bl⟩

set_option maxHeartbeats 8000000 in
set_option maxRecDepth 100000 in
theorem tns_out3 (f t fl : T3) (n p len : Int) (h0 : smT f = true) (h1 : smT t = true) (h2 : smT fl = true) (h3 : inB n 1 20 = false) (w : World) (hT : Tab w) : Calls Tryd.prog 7 #[.agg #[.int .i64 f.a, .int .i64 f.b, .int .i64 t.a, .int .i64 t.b, .int .i64 n], (.agg #[.int .i64 fl.a, .int .i64 fl.b]), .agg #[.int .i64 p, .int .i64 len]] w fun e w' => e = .returned (.bool true) ∧ Below w.heap.size w w' := by
  have F0 := Lib.hid (Fr.b3 w 84 #[.int .i64 f.a, .int .i64 f.b, .int .i64 t.a, .int .i64 t.b, .int .i64 n] 24 #[.int .i64 fl.a, .int .i64 fl.b] 85 #[.int .i64 p, .int .i64 len])
  have T0 := Lib.hid (((hT.new (.cells #[.int .i64 f.a, .int .i64 f.b, .int .i64 t.a, .int .i64 t.b, .int .i64 n] 84)).new (.cells #[.int .i64 fl.a, .int .i64 fl.b] 24)).new (.cells #[.int .i64 p, .int .i64 len] 85))
  have TW := Lib.hid hT
  clear hT
  have H0 := Lib.hid h0
  have H1 := Lib.hid h1
  have H2 := Lib.hid h2
  have H3 := Lib.hid h3
  clear h0 h1 h2 h3
  go_enter Tryd.func7, Tryd.ntmps7
  go_wp2_with fail
  refine (topAwake_any _ T0.out).mono ?_
  rintro e w1 ⟨rfl, hb1⟩
  have G1 := Fr.call F0.out hb1
  have k0_0 := (G1.get 2 rfl).cell 0
  have k0_1 := (G1.get 2 rfl).cell 1
  have k0_2 := (G1.get 2 rfl).cell 2
  have k0_3 := (G1.get 2 rfl).cell 3
  have k0_4 := (G1.get 2 rfl).cell 4
  have kz0 := (G1.get 2 rfl).lt
  obtain ⟨k1_0, k1_1, kf1, kg1⟩ := (G1.get 1 rfl).two
  have kz1 := (G1.get 1 rfl).lt
  obtain ⟨k2_0, k2_1, kf2, kg2⟩ := (G1.get 0 rfl).two
  have kz2 := (G1.get 0 rfl).lt
  have F1 : Hid (Fr w _ [(w.heap.size + 1 + 1, 85, #[.int .i64 p, .int .i64 len]), (w.heap.size + 1, 24, #[.int .i64 fl.a, .int .i64 fl.b]), (w.heap.size, 84, #[.int .i64 f.a, .int .i64 f.b, .int .i64 t.a, .int .i64 t.b, .int .i64 n])]) := Lib.hid G1
  clear hb1 G1 F0
  go_wp2_with fail
  refine (statorSmall_any f _).mono ?_
  rintro e w2 ⟨rfl, hb2⟩
  rw [H0.out]
  clear k0_0 k0_1 k0_2 k0_3 k0_4 kz0 k1_0 k1_1 kf1 kg1 kz1 k2_0 k2_1 kf2 kg2 kz2
  have G2 := Fr.call F1.out hb2
  have k0_0 := (G2.get 2 rfl).cell 0
  have k0_1 := (G2.get 2 rfl).cell 1
  have k0_2 := (G2.get 2 rfl).cell 2
  have k0_3 := (G2.get 2 rfl).cell 3
  have k0_4 := (G2.get 2 rfl).cell 4
  have kz0 := (G2.get 2 rfl).lt
  obtain ⟨k1_0, k1_1, kf1, kg1⟩ := (G2.get 1 rfl).two
  have kz1 := (G2.get 1 rfl).lt
  obtain ⟨k2_0, k2_1, kf2, kg2⟩ := (G2.get 0 rfl).two
  have kz2 := (G2.get 0 rfl).lt
  have F2 : Hid (Fr w _ [(w.heap.size + 1 + 1, 85, #[.int .i64 p, .int .i64 len]), (w.heap.size + 1, 24, #[.int .i64 fl.a, .int .i64 fl.b]), (w.heap.size, 84, #[.int .i64 f.a, .int .i64 f.b, .int .i64 t.a, .int .i64 t.b, .int .i64 n])]) := Lib.hid G2
  clear hb2 G2 F1
  go_wp2_with fail
  refine (statorSmall_any t _).mono ?_
  rintro e w3 ⟨rfl, hb3⟩
  rw [H1.out]
  clear k0_0 k0_1 k0_2 k0_3 k0_4 kz0 k1_0 k1_1 kf1 kg1 kz1 k2_0 k2_1 kf2 kg2 kz2
  have G3 := Fr.call F2.out hb3
  have k0_0 := (G3.get 2 rfl).cell 0
  have k0_1 := (G3.get 2 rfl).cell 1
  have k0_2 := (G3.get 2 rfl).cell 2
  have k0_3 := (G3.get 2 rfl).cell 3
  have k0_4 := (G3.get 2 rfl).cell 4
  have kz0 := (G3.get 2 rfl).lt
  obtain ⟨k1_0, k1_1, kf1, kg1⟩ := (G3.get 1 rfl).two
  have kz1 := (G3.get 1 rfl).lt
  obtain ⟨k2_0, k2_1, kf2, kg2⟩ := (G3.get 0 rfl).two
  have kz2 := (G3.get 0 rfl).lt
  have F3 : Hid (Fr w _ [(w.heap.size + 1 + 1, 85, #[.int .i64 p, .int .i64 len]), (w.heap.size + 1, 24, #[.int .i64 fl.a, .int .i64 fl.b]), (w.heap.size, 84, #[.int .i64 f.a, .int .i64 f.b, .int .i64 t.a, .int .i64 t.b, .int .i64 n])]) := Lib.hid G3
  clear hb3 G3 F2
  go_wp2_with fail
  refine (statorSmall_any fl _).mono ?_
  rintro e w4 ⟨rfl, hb4⟩
  rw [H2.out]
  clear k0_0 k0_1 k0_2 k0_3 k0_4 kz0 k1_0 k1_1 kf1 kg1 kz1 k2_0 k2_1 kf2 kg2 kz2
  have G4 := Fr.call F3.out hb4
  have k0_0 := (G4.get 2 rfl).cell 0
  have k0_1 := (G4.get 2 rfl).cell 1
  have k0_2 := (G4.get 2 rfl).cell 2
  have k0_3 := (G4.get 2 rfl).cell 3
  have k0_4 := (G4.get 2 rfl).cell 4
  have kz0 := (G4.get 2 rfl).lt
  obtain ⟨k1_0, k1_1, kf1, kg1⟩ := (G4.get 1 rfl).two
  have kz1 := (G4.get 1 rfl).lt
  obtain ⟨k2_0, k2_1, kf2, kg2⟩ := (G4.get 0 rfl).two
  have kz2 := (G4.get 0 rfl).lt
  have F4 : Hid (Fr w _ [(w.heap.size + 1 + 1, 85, #[.int .i64 p, .int .i64 len]), (w.heap.size + 1, 24, #[.int .i64 fl.a, .int .i64 fl.b]), (w.heap.size, 84, #[.int .i64 f.a, .int .i64 f.b, .int .i64 t.a, .int .i64 t.b, .int .i64 n])]) := Lib.hid G4
  clear hb4 G4 F3
  go_wp2_with (go_at_call 18; refine (Within_any _ _ _ _).mono ?_; rintro e w' ⟨rfl, rfl⟩; (first | rw [H3.out]))
  go_ret
  exact ⟨rfl, F4.out.bl⟩

set_option maxHeartbeats 8000000 in
set_option maxRecDepth 100000 in
theorem tns_out4 (f t fl : T3) (n p len : Int) (h0 : smT f = true) (h1 : smT t = true) (h2 : smT fl = true) (h3 : inB n 1 20 = true) (h4 : inB p 0 500 = false) (w : World) (hT : Tab w) : Calls Tryd.prog 7 #[.agg #[.int .i64 f.a, .int .i64 f.b, .int .i64 t.a, .int .i64 t.b, .int .i64 n], (.agg #[.int .i64 fl.a, .int .i64 fl.b]), .agg #[.int .i64 p, .int .i64 len]] w fun e w' => e = .returned (.bool true) ∧ Below w.heap.size w w' := by
  have F0 := Lib.hid (Fr.b3 w 84 #[.int .i64 f.a, .int .i64 f.b, .int .i64 t.a, .int .i64 t.b, .int .i64 n] 24 #[.int .i64 fl.a, .int .i64 fl.b] 85 #[.int .i64 p, .int .i64 len])
  have T0 := Lib.hid (((hT.new (.cells #[.int .i64 f.a, .int .i64 f.b, .int .i64 t.a, .int .i64 t.b, .int .i64 n] 84)).new (.cells #[.int .i64 fl.a, .int .i64 fl.b] 24)).new (.cells #[.int .i64 p, .int .i64 len] 85))
  have TW := Lib.hid hT
  clear hT
  have H0 := Lib.hid h0
  have H1 := Lib.hid h1
  have H2 := Lib.hid h2
  have H3 := Lib.hid h3
  have H4 := Lib.hid h4
  clear h0 h1 h2 h3 h4
  go_enter Tryd.func7, Tryd.ntmps7
  go_wp2_with fail
  refine (topAwake_any _ T0.out).mono ?_
  rintro e w1 ⟨rfl, hb1⟩
  have G1 := Fr.call F0.out hb1
  have k0_0 := (G1.get 2 rfl).cell 0
  have k0_1 := (G1.get 2 rfl).cell 1
  have k0_2 := (G1.get 2 rfl).cell 2
  have k0_3 := (G1.get 2 rfl).cell 3
  have k0_4 := (G1.get 2 rfl).cell 4
  have kz0 := (G1.get 2 rfl).lt
  obtain ⟨k1_0, k1_1, kf1, kg1⟩ := (G1.get 1 rfl).two
  have kz1 := (G1.get 1 rfl).lt
  obtain ⟨k2_0, k2_1, kf2, kg2⟩ := (G1.get 0 rfl).two
  have kz2 := (G1.get 0 rfl).lt
  have F1 : Hid (Fr w _ [(w.heap.size + 1 + 1, 85, #[.int .i64 p, .int .i64 len]), (w.heap.size + 1, 24, #[.int .i64 fl.a, .int .i64 fl.b]), (w.heap.size, 84, #[.int .i64 f.a, .int .i64 f.b, .int .i64 t.a, .int .i64 t.b, .int .i64 n])]) := Lib.hid G1
  clear hb1 G1 F0
  go_wp2_with fail
  refine (statorSmall_any f _).mono ?_
  rintro e w2 ⟨rfl, hb2⟩
  rw [H0.out]
  clear k0_0 k0_1 k0_2 k0_3 k0_4 kz0 k1_0 k1_1 kf1 kg1 kz1 k2_0 k2_1 kf2 kg2 kz2
  have G2 := Fr.call F1.out hb2
  have k0_0 := (G2.get 2 rfl).cell 0
  have k0_1 := (G2.get 2 rfl).cell 1
  have k0_2 := (G2.get 2 rfl).cell 2
  have k0_3 := (G2.get 2 rfl).cell 3
  have k0_4 := (G2.get 2 rfl).cell 4
  have kz0 := (G2.get 2 rfl).lt
  obtain ⟨k1_0, k1_1, kf1, kg1⟩ := (G2.get 1 rfl).two
  have kz1 := (G2.get 1 rfl).lt
  obtain ⟨k2_0, k2_1, kf2, kg2⟩ := (G2.get 0 rfl).two
  have kz2 := (G2.get 0 rfl).lt
  have F2 : Hid (Fr w _ [(w.heap.size + 1 + 1, 85, #[.int .i64 p, .int .i64 len]), (w.heap.size + 1, 24, #[.int .i64 fl.a, .int .i64 fl.b]), (w.heap.size, 84, #[.int .i64 f.a, .int .i64 f.b, .int .i64 t.a, .int .i64 t.b, .int .i64 n])]) := Lib.hid G2
  clear hb2 G2 F1
  go_wp2_with fail
  refine (statorSmall_any t _).mono ?_
  rintro e w3 ⟨rfl, hb3⟩
  rw [H1.out]
  clear k0_0 k0_1 k0_2 k0_3 k0_4 kz0 k1_0 k1_1 kf1 kg1 kz1 k2_0 k2_1 kf2 kg2 kz2
  have G3 := Fr.call F2.out hb3
  have k0_0 := (G3.get 2 rfl).cell 0
  have k0_1 := (G3.get 2 rfl).cell 1
  have k0_2 := (G3.get 2 rfl).cell 2
  have k0_3 := (G3.get 2 rfl).cell 3
  have k0_4 := (G3.get 2 rfl).cell 4
  have kz0 := (G3.get 2 rfl).lt
  obtain ⟨k1_0, k1_1, kf1, kg1⟩ := (G3.get 1 rfl).two
  have kz1 := (G3.get 1 rfl).lt
  obtain ⟨k2_0, k2_1, kf2, kg2⟩ := (G3.get 0 rfl).two
  have kz2 := (G3.get 0 rfl).lt
  have F3 : Hid (Fr w _ [(w.heap.size + 1 + 1, 85, #[.int .i64 p, .int .i64 len]), (w.heap.size + 1, 24, #[.int .i64 fl.a, .int .i64 fl.b]), (w.heap.size, 84, #[.int .i64 f.a, .int .i64 f.b, .int .i64 t.a, .int .i64 t.b, .int .i64 n])]) := Lib.hid G3
  clear hb3 G3 F2
  go_wp2_with fail
  refine (statorSmall_any fl _).mono ?_
  rintro e w4 ⟨rfl, hb4⟩
  rw [H2.out]
  clear k0_0 k0_1 k0_2 k0_3 k0_4 kz0 k1_0 k1_1 kf1 kg1 kz1 k2_0 k2_1 kf2 kg2 kz2
  have G4 := Fr.call F3.out hb4
  have k0_0 := (G4.get 2 rfl).cell 0
  have k0_1 := (G4.get 2 rfl).cell 1
  have k0_2 := (G4.get 2 rfl).cell 2
  have k0_3 := (G4.get 2 rfl).cell 3
  have k0_4 := (G4.get 2 rfl).cell 4
  have kz0 := (G4.get 2 rfl).lt
  obtain ⟨k1_0, k1_1, kf1, kg1⟩ := (G4.get 1 rfl).two
  have kz1 := (G4.get 1 rfl).lt
  obtain ⟨k2_0, k2_1, kf2, kg2⟩ := (G4.get 0 rfl).two
  have kz2 := (G4.get 0 rfl).lt
  have F4 : Hid (Fr w _ [(w.heap.size + 1 + 1, 85, #[.int .i64 p, .int .i64 len]), (w.heap.size + 1, 24, #[.int .i64 fl.a, .int .i64 fl.b]), (w.heap.size, 84, #[.int .i64 f.a, .int .i64 f.b, .int .i64 t.a, .int .i64 t.b, .int .i64 n])]) := Lib.hid G4
  clear hb4 G4 F3
  go_wp2_with (go_at_call 18; refine (Within_any _ _ _ _).mono ?_; rintro e w' ⟨rfl, rfl⟩; (first | rw [H3.out] | rw [H4.out]))
  go_ret
  exact ⟨rfl, F4.out.bl⟩

set_option maxHeartbeats 8000000 in
set_option maxRecDepth 100000 in
theorem tns_out5 (f t fl : T3) (n p len : Int) (h0 : smT f = true) (h1 : smT t = true) (h2 : smT fl = true) (h3 : inB n 1 20 = true) (h4 : inB p 0 500 = true) (h5 : inB len 1 500 = false) (w : World) (hT : Tab w) : Calls Tryd.prog 7 #[.agg #[.int .i64 f.a, .int .i64 f.b, .int .i64 t.a, .int .i64 t.b, .int .i64 n], (.agg #[.int .i64 fl.a, .int .i64 fl.b]), .agg #[.int .i64 p, .int .i64 len]] w fun e w' => e = .returned (.bool true) ∧ Below w.heap.size w w' := by
  have F0 := Lib.hid (Fr.b3 w 84 #[.int .i64 f.a, .int .i64 f.b, .int .i64 t.a, .int .i64 t.b, .int .i64 n] 24 #[.int .i64 fl.a, .int .i64 fl.b] 85 #[.int .i64 p, .int .i64 len])
  have T0 := Lib.hid (((hT.new (.cells #[.int .i64 f.a, .int .i64 f.b, .int .i64 t.a, .int .i64 t.b, .int .i64 n] 84)).new (.cells #[.int .i64 fl.a, .int .i64 fl.b] 24)).new (.cells #[.int .i64 p, .int .i64 len] 85))
  have TW := Lib.hid hT
  clear hT
  have H0 := Lib.hid h0
  have H1 := Lib.hid h1
  have H2 := Lib.hid h2
  have H3 := Lib.hid h3
  have H4 := Lib.hid h4
  have H5 := Lib.hid h5
  clear h0 h1 h2 h3 h4 h5
  go_enter Tryd.func7, Tryd.ntmps7
  go_wp2_with fail
  refine (topAwake_any _ T0.out).mono ?_
  rintro e w1 ⟨rfl, hb1⟩
  have G1 := Fr.call F0.out hb1
  have k0_0 := (G1.get 2 rfl).cell 0
  have k0_1 := (G1.get 2 rfl).cell 1
  have k0_2 := (G1.get 2 rfl).cell 2
  have k0_3 := (G1.get 2 rfl).cell 3
  have k0_4 := (G1.get 2 rfl).cell 4
  have kz0 := (G1.get 2 rfl).lt
  obtain ⟨k1_0, k1_1, kf1, kg1⟩ := (G1.get 1 rfl).two
  have kz1 := (G1.get 1 rfl).lt
  obtain ⟨k2_0, k2_1, kf2, kg2⟩ := (G1.get 0 rfl).two
  have kz2 := (G1.get 0 rfl).lt
  have F1 : Hid (Fr w _ [(w.heap.size + 1 + 1, 85, #[.int .i64 p, .int .i64 len]), (w.heap.size + 1, 24, #[.int .i64 fl.a, .int .i64 fl.b]), (w.heap.size, 84, #[.int .i64 f.a, .int .i64 f.b, .int .i64 t.a, .int .i64 t.b, .int .i64 n])]) := Lib.hid G1
  clear hb1 G1 F0
  go_wp2_with fail
  refine (statorSmall_any f _).mono ?_
  rintro e w2 ⟨rfl, hb2⟩
  rw [H0.out]
  clear k0_0 k0_1 k0_2 k0_3 k0_4 kz0 k1_0 k1_1 kf1 kg1 kz1 k2_0 k2_1 kf2 kg2 kz2
  have G2 := Fr.call F1.out hb2
  have k0_0 := (G2.get 2 rfl).cell 0
  have k0_1 := (G2.get 2 rfl).cell 1
  have k0_2 := (G2.get 2 rfl).cell 2
  have k0_3 := (G2.get 2 rfl).cell 3
  have k0_4 := (G2.get 2 rfl).cell 4
  have kz0 := (G2.get 2 rfl).lt
  obtain ⟨k1_0, k1_1, kf1, kg1⟩ := (G2.get 1 rfl).two
  have kz1 := (G2.get 1 rfl).lt
  obtain ⟨k2_0, k2_1, kf2, kg2⟩ := (G2.get 0 rfl).two
  have kz2 := (G2.get 0 rfl).lt
  have F2 : Hid (Fr w _ [(w.heap.size + 1 + 1, 85, #[.int .i64 p, .int .i64 len]), (w.heap.size + 1, 24, #[.int .i64 fl.a, .int .i64 fl.b]), (w.heap.size, 84, #[.int .i64 f.a, .int .i64 f.b, .int .i64 t.a, .int .i64 t.b, .int .i64 n])]) := Lib.hid G2
  clear hb2 G2 F1
  go_wp2_with fail
  refine (statorSmall_any t _).mono ?_
  rintro e w3 ⟨rfl, hb3⟩
  rw [H1.out]
  clear k0_0 k0_1 k0_2 k0_3 k0_4 kz0 k1_0 k1_1 kf1 kg1 kz1 k2_0 k2_1 kf2 kg2 kz2
  have G3 := Fr.call F2.out hb3
  have k0_0 := (G3.get 2 rfl).cell 0
  have k0_1 := (G3.get 2 rfl).cell 1
  have k0_2 := (G3.get 2 rfl).cell 2
  have k0_3 := (G3.get 2 rfl).cell 3
  have k0_4 := (G3.get 2 rfl).cell 4
  have kz0 := (G3.get 2 rfl).lt
  obtain ⟨k1_0, k1_1, kf1, kg1⟩ := (G3.get 1 rfl).two
  have kz1 := (G3.get 1 rfl).lt
  obtain ⟨k2_0, k2_1, kf2, kg2⟩ := (G3.get 0 rfl).two
  have kz2 := (G3.get 0 rfl).lt
  have F3 : Hid (Fr w _ [(w.heap.size + 1 + 1, 85, #[.int .i64 p, .int .i64 len]), (w.heap.size + 1, 24, #[.int .i64 fl.a, .int .i64 fl.b]), (w.heap.size, 84, #[.int .i64 f.a, .int .i64 f.b, .int .i64 t.a, .int .i64 t.b, .int .i64 n])]) := Lib.hid G3
  clear hb3 G3 F2
  go_wp2_with fail
  refine (statorSmall_any fl _).mono ?_
  rintro e w4 ⟨rfl, hb4⟩
  rw [H2.out]
  clear k0_0 k0_1 k0_2 k0_3 k0_4 kz0 k1_0 k1_1 kf1 kg1 kz1 k2_0 k2_1 kf2 kg2 kz2
  have G4 := Fr.call F3.out hb4
  have k0_0 := (G4.get 2 rfl).cell 0
  have k0_1 := (G4.get 2 rfl).cell 1
  have k0_2 := (G4.get 2 rfl).cell 2
  have k0_3 := (G4.get 2 rfl).cell 3
  have k0_4 := (G4.get 2 rfl).cell 4
  have kz0 := (G4.get 2 rfl).lt
  obtain ⟨k1_0, k1_1, kf1, kg1⟩ := (G4.get 1 rfl).two
  have kz1 := (G4.get 1 rfl).lt
  obtain ⟨k2_0, k2_1, kf2, kg2⟩ := (G4.get 0 rfl).two
  have kz2 := (G4.get 0 rfl).lt
  have F4 : Hid (Fr w _ [(w.heap.size + 1 + 1, 85, #[.int .i64 p, .int .i64 len]), (w.heap.size + 1, 24, #[.int .i64 fl.a, .int .i64 fl.b]), (w.heap.size, 84, #[.int .i64 f.a, .int .i64 f.b, .int .i64 t.a, .int .i64 t.b, .int .i64 n])]) := Lib.hid G4
  clear hb4 G4 F3
  go_wp2_with (go_at_call 18; refine (Within_any _ _ _ _).mono ?_; rintro e w' ⟨rfl, rfl⟩; (first | rw [H3.out] | rw [H4.out] | rw [H5.out]))
  go_ret
  exact ⟨rfl, F4.out.bl⟩

set_option maxHeartbeats 8000000 in
set_option maxRecDepth 100000 in
theorem tns_ok (f t fl : T3) (n : Nat) (p len : Int) (h0 : smT f = true) (h1 : smT t = true) (h2 : smT fl = true) (h3 : inB (n : Int) 1 20 = true) (h4 : inB p 0 500 = true) (h5 : inB len 1 500 = true) (w : World) (hT : Tab w) : Calls Tryd.prog 7 #[.agg #[.int .i64 f.a, .int .i64 f.b, .int .i64 t.a, .int .i64 t.b, .int .i64 (n : Int)], (.agg #[.int .i64 fl.a, .int .i64 fl.b]), .agg #[.int .i64 p, .int .i64 len]] w fun e w' => e = .returned (.bool true) ∧ Below w.heap.size w w' := by
  have F0 := Lib.hid (Fr.b3 w 84 #[.int .i64 f.a, .int .i64 f.b, .int .i64 t.a, .int .i64 t.b, .int .i64 (n : Int)] 24 #[.int .i64 fl.a, .int .i64 fl.b] 85 #[.int .i64 p, .int .i64 len])
  have T0 := Lib.hid (((hT.new (.cells #[.int .i64 f.a, .int .i64 f.b, .int .i64 t.a, .int .i64 t.b, .int .i64 (n : Int)] 84)).new (.cells #[.int .i64 fl.a, .int .i64 fl.b] 24)).new (.cells #[.int .i64 p, .int .i64 len] 85))
  have TW := Lib.hid hT
  clear hT
  have H0 := Lib.hid h0
  have H1 := Lib.hid h1
  have H2 := Lib.hid h2
  have H3 := Lib.hid h3
  have H4 := Lib.hid h4
  have H5 := Lib.hid h5
  obtain ⟨n0, n1⟩ := inB_iff.1 h3
  obtain ⟨p0, p1⟩ := inB_iff.1 h4
  obtain ⟨l0, l1⟩ := inB_iff.1 h5
  have HB0 := Lib.hid (smT_iff.1 h0)
  have HB1 := Lib.hid (smT_iff.1 h1)
  have HB2 := Lib.hid (smT_iff.1 h2)
  have HO0 := Lib.hid (smT_ok h0)
  have HO1 := Lib.hid (smT_ok h1)
  have HO2 := Lib.hid (smT_ok h2)
  obtain ⟨ev, hev⟩ : ∃ b, evB [f, t] fl = b := ⟨_, rfl⟩
  have HEV := Lib.hid hev
  have HEC := Lib.hid (even2_any f t fl HO0.out HO1.out HO2.out)
  rw [hev] at HEC
  have HQ := Lib.hid (forceOf_ok f fl HO0.out HO2.out)
  have hqb := force_in (A := 1000) (B := 1000) HB0.out HB2.out
  have HHD := Lib.hid (Handed_ok f t n HO0.out HO1.out (by omega) (by omega))
  clear h0 h1 h2 h3 h4 h5 hev
  go_enter Tryd.func7, Tryd.ntmps7
  go_wp2_with fail
  refine (topAwake_any _ T0.out).mono ?_
  rintro e w1 ⟨rfl, hb1⟩
  have G1 := Fr.call F0.out hb1
  have k0_0 := (G1.get 2 rfl).cell 0
  have k0_1 := (G1.get 2 rfl).cell 1
  have k0_2 := (G1.get 2 rfl).cell 2
  have k0_3 := (G1.get 2 rfl).cell 3
  have k0_4 := (G1.get 2 rfl).cell 4
  have kz0 := (G1.get 2 rfl).lt
  obtain ⟨k1_0, k1_1, kf1, kg1⟩ := (G1.get 1 rfl).two
  have kz1 := (G1.get 1 rfl).lt
  obtain ⟨k2_0, k2_1, kf2, kg2⟩ := (G1.get 0 rfl).two
  have kz2 := (G1.get 0 rfl).lt
  have F1 : Hid (Fr w _ [(w.heap.size + 1 + 1, 85, #[.int .i64 p, .int .i64 len]), (w.heap.size + 1, 24, #[.int .i64 fl.a, .int .i64 fl.b]), (w.heap.size, 84, #[.int .i64 f.a, .int .i64 f.b, .int .i64 t.a, .int .i64 t.b, .int .i64 (n : Int)])]) := Lib.hid G1
  clear hb1 G1 F0
  go_wp2_with fail
  refine (statorSmall_any f _).mono ?_
  rintro e w2 ⟨rfl, hb2⟩
  rw [H0.out]
  clear k0_0 k0_1 k0_2 k0_3 k0_4 kz0 k1_0 k1_1 kf1 kg1 kz1 k2_0 k2_1 kf2 kg2 kz2
  have G2 := Fr.call F1.out hb2
  have k0_0 := (G2.get 2 rfl).cell 0
  have k0_1 := (G2.get 2 rfl).cell 1
  have k0_2 := (G2.get 2 rfl).cell 2
  have k0_3 := (G2.get 2 rfl).cell 3
  have k0_4 := (G2.get 2 rfl).cell 4
  have kz0 := (G2.get 2 rfl).lt
  obtain ⟨k1_0, k1_1, kf1, kg1⟩ := (G2.get 1 rfl).two
  have kz1 := (G2.get 1 rfl).lt
  obtain ⟨k2_0, k2_1, kf2, kg2⟩ := (G2.get 0 rfl).two
  have kz2 := (G2.get 0 rfl).lt
  have F2 : Hid (Fr w _ [(w.heap.size + 1 + 1, 85, #[.int .i64 p, .int .i64 len]), (w.heap.size + 1, 24, #[.int .i64 fl.a, .int .i64 fl.b]), (w.heap.size, 84, #[.int .i64 f.a, .int .i64 f.b, .int .i64 t.a, .int .i64 t.b, .int .i64 (n : Int)])]) := Lib.hid G2
  clear hb2 G2 F1
  go_wp2_with fail
  refine (statorSmall_any t _).mono ?_
  rintro e w3 ⟨rfl, hb3⟩
  rw [H1.out]
  clear k0_0 k0_1 k0_2 k0_3 k0_4 kz0 k1_0 k1_1 kf1 kg1 kz1 k2_0 k2_1 kf2 kg2 kz2
  have G3 := Fr.call F2.out hb3
  have k0_0 := (G3.get 2 rfl).cell 0
  have k0_1 := (G3.get 2 rfl).cell 1
  have k0_2 := (G3.get 2 rfl).cell 2
  have k0_3 := (G3.get 2 rfl).cell 3
  have k0_4 := (G3.get 2 rfl).cell 4
  have kz0 := (G3.get 2 rfl).lt
  obtain ⟨k1_0, k1_1, kf1, kg1⟩ := (G3.get 1 rfl).two
  have kz1 := (G3.get 1 rfl).lt
  obtain ⟨k2_0, k2_1, kf2, kg2⟩ := (G3.get 0 rfl).two
  have kz2 := (G3.get 0 rfl).lt
  have F3 : Hid (Fr w _ [(w.heap.size + 1 + 1, 85, #[.int .i64 p, .int .i64 len]), (w.heap.size + 1, 24, #[.int .i64 fl.a, .int .i64 fl.b]), (w.heap.size, 84, #[.int .i64 f.a, .int .i64 f.b, .int .i64 t.a, .int .i64 t.b, .int .i64 (n : Int)])]) := Lib.hid G3
  clear hb3 G3 F2
  go_wp2_with fail
  refine (statorSmall_any fl _).mono ?_
  rintro e w4 ⟨rfl, hb4⟩
  rw [H2.out]
  clear k0_0 k0_1 k0_2 k0_3 k0_4 kz0 k1_0 k1_1 kf1 kg1 kz1 k2_0 k2_1 kf2 kg2 kz2
  have G4 := Fr.call F3.out hb4
  have k0_0 := (G4.get 2 rfl).cell 0
  have k0_1 := (G4.get 2 rfl).cell 1
  have k0_2 := (G4.get 2 rfl).cell 2
  have k0_3 := (G4.get 2 rfl).cell 3
  have k0_4 := (G4.get 2 rfl).cell 4
  have kz0 := (G4.get 2 rfl).lt
  obtain ⟨k1_0, k1_1, kf1, kg1⟩ := (G4.get 1 rfl).two
  have kz1 := (G4.get 1 rfl).lt
  obtain ⟨k2_0, k2_1, kf2, kg2⟩ := (G4.get 0 rfl).two
  have kz2 := (G4.get 0 rfl).lt
  have F4 : Hid (Fr w _ [(w.heap.size + 1 + 1, 85, #[.int .i64 p, .int .i64 len]), (w.heap.size + 1, 24, #[.int .i64 fl.a, .int .i64 fl.b]), (w.heap.size, 84, #[.int .i64 f.a, .int .i64 f.b, .int .i64 t.a, .int .i64 t.b, .int .i64 (n : Int)])]) := Lib.hid G4
  clear hb4 G4 F3
  go_wp2_with (go_at_call 18; refine (Within_any _ _ _ _).mono ?_; rintro e w' ⟨rfl, rfl⟩; (first | rw [H3.out] | rw [H4.out] | rw [H5.out]))
  refine (HEC.out _ _ _ (Lies.bk4 (Bk.new _ 24 #[.int .i64 f.a, .int .i64 f.b, .int .i64 t.a, .int .i64 t.b]))).mono ?_
  rintro e w5 ⟨rfl, hb5⟩
  clear k0_0 k0_1 k0_2 k0_3 k0_4 kz0 k1_0 k1_1 kf1 kg1 kz1 k2_0 k2_1 kf2 kg2 kz2
  have G5 := Fr.call (Fr.new F4.out _) hb5
  have k0_0 := (G5.get 2 rfl).cell 0
  have k0_1 := (G5.get 2 rfl).cell 1
  have k0_2 := (G5.get 2 rfl).cell 2
  have k0_3 := (G5.get 2 rfl).cell 3
  have k0_4 := (G5.get 2 rfl).cell 4
  have kz0 := (G5.get 2 rfl).lt
  obtain ⟨k1_0, k1_1, kf1, kg1⟩ := (G5.get 1 rfl).two
  have kz1 := (G5.get 1 rfl).lt
  obtain ⟨k2_0, k2_1, kf2, kg2⟩ := (G5.get 0 rfl).two
  have kz2 := (G5.get 0 rfl).lt
  have F5 : Hid (Fr w _ [(w.heap.size + 1 + 1, 85, #[.int .i64 p, .int .i64 len]), (w.heap.size + 1, 24, #[.int .i64 fl.a, .int .i64 fl.b]), (w.heap.size, 84, #[.int .i64 f.a, .int .i64 f.b, .int .i64 t.a, .int .i64 t.b, .int .i64 (n : Int)])]) := Lib.hid G5
  clear hb5 G5 F4
  go_wp2_with fail
  refine (HQ.out _).mono ?_
  rintro e w6 ⟨rfl, hb6⟩
  clear k0_0 k0_1 k0_2 k0_3 k0_4 kz0 k1_0 k1_1 kf1 kg1 kz1 k2_0 k2_1 kf2 kg2 kz2
  have G6 := Fr.call F5.out hb6
  have k0_0 := (G6.get 2 rfl).cell 0
  have k0_1 := (G6.get 2 rfl).cell 1
  have k0_2 := (G6.get 2 rfl).cell 2
  have k0_3 := (G6.get 2 rfl).cell 3
  have k0_4 := (G6.get 2 rfl).cell 4
  have kz0 := (G6.get 2 rfl).lt
  obtain ⟨k1_0, k1_1, kf1, kg1⟩ := (G6.get 1 rfl).two
  have kz1 := (G6.get 1 rfl).lt
  obtain ⟨k2_0, k2_1, kf2, kg2⟩ := (G6.get 0 rfl).two
  have kz2 := (G6.get 0 rfl).lt
  have F6 : Hid (Fr w _ [(w.heap.size + 1 + 1, 85, #[.int .i64 p, .int .i64 len]), (w.heap.size + 1, 24, #[.int .i64 fl.a, .int .i64 fl.b]), (w.heap.size, 84, #[.int .i64 f.a, .int .i64 f.b, .int .i64 t.a, .int .i64 t.b, .int .i64 (n : Int)])]) := Lib.hid G6
  clear hb6 G6 F5
  generalize hqq : forceV f fl = q at *
  have HQQ := Lib.hid hqq
  clear hqq
  go_wp2_with fail
  refine (HHD.out _).mono ?_
  rintro e wm ⟨g, rfl, hgl, hb7⟩
  clear k0_0 k0_1 k0_2 k0_3 k0_4 kz0 k1_0 k1_1 kf1 kg1 kz1 k2_0 k2_1 kf2 kg2 kz2
  have G7 := Fr.call F6.out hb7
  have GL := Lib.hid hgl
  clear hgl
  have k0_0 := (G7.get 2 rfl).cell 0
  have k0_1 := (G7.get 2 rfl).cell 1
  have k0_2 := (G7.get 2 rfl).cell 2
  have k0_3 := (G7.get 2 rfl).cell 3
  have k0_4 := (G7.get 2 rfl).cell 4
  have kz0 := (G7.get 2 rfl).lt
  obtain ⟨k1_0, k1_1, kf1, kg1⟩ := (G7.get 1 rfl).two
  have kz1 := (G7.get 1 rfl).lt
  obtain ⟨k2_0, k2_1, kf2, kg2⟩ := (G7.get 0 rfl).two
  have kz2 := (G7.get 0 rfl).lt
  have F7 : Hid (Fr w _ [(w.heap.size + 1 + 1, 85, #[.int .i64 p, .int .i64 len]), (w.heap.size + 1, 24, #[.int .i64 fl.a, .int .i64 fl.b]), (w.heap.size, 84, #[.int .i64 f.a, .int .i64 f.b, .int .i64 t.a, .int .i64 t.b, .int .i64 (n : Int)])]) := Lib.hid G7
  clear hb7 G7 F6
  cases ev with
  | false =>
    go_wp2_with fail
    go_ret
    exact ⟨rfl, F7.out.bl⟩
  | true =>
    have HE := Lib.hid (ev_two HEV.out)
    have BW := Lib.hid F7.out.bl
    have FM : Hid (Fr wm _ [(wm.heap.size + 1, 92, #[.slice (some ⟨wm.heap.size, 0, none⟩) 2 2]), (wm.heap.size, 3, #[.int .i64 500, .int .i64 500]), (w.heap.size + 1 + 1, 85, #[.int .i64 p, .int .i64 len]), (w.heap.size + 1, 24, #[.int .i64 fl.a, .int .i64 fl.b]), (w.heap.size, 84, #[.int .i64 f.a, .int .i64 f.b, .int .i64 t.a, .int .i64 t.b, .int .i64 (n : Int)])]) := Lib.hid (by have := ((F7.out.base (Below.refl _ _)).box 3 #[.int .i64 500, .int .i64 500]).box 92 #[.slice (some ⟨wm.heap.size, 0, none⟩) 2 2]; rwa [World.size_alloc] at this)
    clear F7
    obtain ⟨sa, hsa⟩ : ∃ s, max fl.a (-fl.a) = s := ⟨_, rfl⟩
    obtain ⟨sb, hsb⟩ : ∃ s, max fl.b (-fl.b) = s := ⟨_, rfl⟩
    have hfb := HB2.out
    have s0 : 0 ≤ sa ∧ sa ≤ 1000 := by omega
    have s1 : 0 ≤ sb ∧ sb ≤ 1000 := by omega
    have HSA : Hid (∀ w, Calls Tryd.prog 50 #[.int .i64 fl.a] w fun e w' => e = .returned (.int .i64 sa) ∧ w = w') := Lib.hid (fun w => by rw [← hsa]; exact Size_any _ (by omega) (by omega) w)
    have HSB : Hid (∀ w, Calls Tryd.prog 50 #[.int .i64 fl.b] w fun e w' => e = .returned (.int .i64 sb) ∧ w = w') := Lib.hid (fun w => by rw [← hsb]; exact Size_any _ (by omega) (by omega) w)
    have m1 := mulB (x := len) (y := sa + sb) (A := 500) (B := 2000) ⟨by omega, by omega⟩ ⟨by omega, by omega⟩
    obtain ⟨most, hmost⟩ : ∃ m, len * (sa + sb) = m := ⟨_, rfl⟩
    have HMO := Lib.hid hmost
    have HWS : Hid (IntKind.i64.wrap (sa + sb) = sa + sb ∧ IntKind.i64.wrap (len * (sa + sb)) = most) := Lib.hid ⟨IntWalk.i64_in _ ⟨by omega, by omega⟩, (IntWalk.i64_in _ ⟨by omega, by omega⟩).trans hmost⟩
    have HS1 := Lib.hid hsa
    have HS2 := Lib.hid hsb
    rw [hmost] at m1
    clear hsa hsb hmost hfb
    go_upto_region 13 with fail
    go_cut [14] from 107 to 116 (fun r W => r = .int .i64 most ∧ Fr wm W [(wm.heap.size + 1, 92, #[.slice (some ⟨wm.heap.size, 0, none⟩) 2 2]), (wm.heap.size, 3, #[.int .i64 500, .int .i64 500]), (w.heap.size + 1 + 1, 85, #[.int .i64 p, .int .i64 len]), (w.heap.size + 1, 24, #[.int .i64 fl.a, .int .i64 fl.b]), (w.heap.size, 84, #[.int .i64 f.a, .int .i64 f.b, .int .i64 t.a, .int .i64 t.b, .int .i64 (n : Int)])])
    case first =>
      have HALL : Hid (∀ W, Fr wm W [(wm.heap.size + 1, 92, #[.slice (some ⟨wm.heap.size, 0, none⟩) 2 2]), (wm.heap.size, 3, #[.int .i64 500, .int .i64 500]), (w.heap.size + 1 + 1, 85, #[.int .i64 p, .int .i64 len]), (w.heap.size + 1, 24, #[.int .i64 fl.a, .int .i64 fl.b]), (w.heap.size, 84, #[.int .i64 f.a, .int .i64 f.b, .int .i64 t.a, .int .i64 t.b, .int .i64 (n : Int)])] → Fr wm W [(wm.heap.size + 1, 92, #[.slice (some ⟨wm.heap.size, 0, none⟩) 2 2]), (wm.heap.size, 3, #[.int .i64 500, .int .i64 500]), (w.heap.size + 1 + 1, 85, #[.int .i64 p, .int .i64 len]), (w.heap.size + 1, 24, #[.int .i64 fl.a, .int .i64 fl.b]), (w.heap.size, 84, #[.int .i64 f.a, .int .i64 f.b, .int .i64 t.a, .int .i64 t.b, .int .i64 (n : Int)])] ∧ W.cell? ⟨w.heap.size + 1, 0, none⟩ = some (.int .i64 fl.a) ∧ W.cell? ⟨w.heap.size + 1, 1, none⟩ = some (.int .i64 fl.b) ∧ W.cell? ⟨w.heap.size + 1 + 1, 0, none⟩ = some (.int .i64 p) ∧ W.cell? ⟨w.heap.size + 1 + 1, 1, none⟩ = some (.int .i64 len) ∧ W.cell? ⟨wm.heap.size + 1, 0, none⟩ = some (.slice (some ⟨wm.heap.size, 0, none⟩) 2 2)) := Lib.hid (fun W hW => ⟨hW, (hW.get 3 rfl).cell 0, (hW.get 3 rfl).cell 1, (hW.get 2 rfl).cell 0, (hW.get 2 rfl).cell 1, (hW.get 0 rfl).cell 0⟩)
      have F10 : Fr wm _ [(wm.heap.size + 1, 92, #[.slice (some ⟨wm.heap.size, 0, none⟩) 2 2]), (wm.heap.size, 3, #[.int .i64 500, .int .i64 500]), (w.heap.size + 1 + 1, 85, #[.int .i64 p, .int .i64 len]), (w.heap.size + 1, 24, #[.int .i64 fl.a, .int .i64 fl.b]), (w.heap.size, 84, #[.int .i64 f.a, .int .i64 f.b, .int .i64 t.a, .int .i64 t.b, .int .i64 (n : Int)])] := FM.out
      obtain ⟨ws0, ws1⟩ := HWS.out
      clear FM k0_0 k0_1 k0_2 k0_3 k0_4 kz0 k1_0 k1_1 kf1 kg1 kz1 k2_0 k2_1 kf2 kg2 kz2
      go_region_held3 (fun W => Fr wm W [(wm.heap.size + 1, 92, #[.slice (some ⟨wm.heap.size, 0, none⟩) 2 2]), (wm.heap.size, 3, #[.int .i64 500, .int .i64 500]), (w.heap.size + 1 + 1, 85, #[.int .i64 p, .int .i64 len]), (w.heap.size + 1, 24, #[.int .i64 fl.a, .int .i64 fl.b]), (w.heap.size, 84, #[.int .i64 f.a, .int .i64 f.b, .int .i64 t.a, .int .i64 t.b, .int .i64 (n : Int)])] ∧ W.cell? ⟨w.heap.size + 1, 0, none⟩ = some (.int .i64 fl.a) ∧ W.cell? ⟨w.heap.size + 1, 1, none⟩ = some (.int .i64 fl.b) ∧ W.cell? ⟨w.heap.size + 1 + 1, 0, none⟩ = some (.int .i64 p) ∧ W.cell? ⟨w.heap.size + 1 + 1, 1, none⟩ = some (.int .i64 len) ∧ W.cell? ⟨wm.heap.size + 1, 0, none⟩ = some (.slice (some ⟨wm.heap.size, 0, none⟩) 2 2))
        ((go_split_ands; refine HALL.out _ ?_; (first | assumption | (repeat (first | assumption | refine Fr.new ?_ _ | refine Fr.drew ?_ | (refine Fr.set ?_ (by first | exact Nat.le_refl _ | omega | (simp; done) | (simp; omega)) (by first | (simp; done) | (simp; omega)) _))); done)))
        ((first | (go_at_call 50; (with_reducible refine (HSA.out _).mono ?_); rintro e w' ⟨rfl, rfl⟩) | (go_at_call 50; (with_reducible refine (HSB.out _).mono ?_); rintro e w' ⟨rfl, rfl⟩) | fail "arm"))
      all_goals
        go_split_ands
        go_wp2_with fail
        go_meet
        exact ⟨rfl, by assumption⟩
    case rest =>
      obtain ⟨wx, rfl⟩ : ∃ W, W = wc := ⟨_, rfl⟩
      obtain ⟨rfl, hx⟩ := hcut
      have FC : Hid (Fr wm _ [(wm.heap.size + 1, 92, #[.slice (some ⟨wm.heap.size, 0, none⟩) 2 2]), (wm.heap.size, 3, #[.int .i64 500, .int .i64 500]), (w.heap.size + 1 + 1, 85, #[.int .i64 p, .int .i64 len]), (w.heap.size + 1, 24, #[.int .i64 fl.a, .int .i64 fl.b]), (w.heap.size, 84, #[.int .i64 f.a, .int .i64 f.b, .int .i64 t.a, .int .i64 t.b, .int .i64 (n : Int)])]) := Lib.hid hx
      clear hx FM HSA HSB HWS k0_0 k0_1 k0_2 k0_3 k0_4 kz0 k1_0 k1_1 kf1 kg1 kz1 k2_0 k2_1 kf2 kg2 kz2
      go_wp2_with fail
      go_loopw [15] (fun i wr => ∃ k : Nat, k ≤ n ∧ i = .int .i64 k ∧ Fr wm wr [(wm.heap.size + 1, 92, #[.slice (some ⟨wm.heap.size, 0, none⟩) 2 2]), (wm.heap.size, 3, #[.int .i64 500, .int .i64 500]), (w.heap.size + 1 + 1, 85, #[.int .i64 p, .int .i64 len]), (w.heap.size + 1, 24, #[.int .i64 fl.a, .int .i64 fl.b]), (w.heap.size, 84, #[.int .i64 f.a, .int .i64 f.b, .int .i64 t.a, .int .i64 t.b, .int .i64 (n : Int)])]) (fun i _ => n - (intOf i).toNat)
      case atStart => exact ⟨0, Nat.zero_le _, rfl, FC.out⟩
      case round =>
        obtain ⟨k, hk, rfl, hfr⟩ := hrel
        have FK := Lib.hid hfr
        clear hfr FC
        by_cases hlt : k < n
        · obtain ⟨v, hv⟩ : ∃ v, hdV f t (n : Int) (k + 1) = v := ⟨_, rfl⟩
          have hlt' : (k : Int) < (n : Int) := by omega
          have hb1 := hdP_near (s := (n : Int)) (k := k + 1) (by omega) (by omega) HB0.out.1 HB1.out.1
          have hb2 := hdP_near (s := (n : Int)) (k := k + 1) (by omega) (by omega) HB0.out.2 HB1.out.2
          have hfo := hd_force (f := f) (t := t) (fl := fl) (s := (n : Int)) (k := k + 1) (by omega) HE.out
          have hvb : (-2000 ≤ v.a ∧ v.a ≤ 2000) ∧ -2000 ≤ v.b ∧ v.b ≤ 2000 := by rw [← hv]; exact ⟨hb1, hb2⟩
          rw [hv, HQQ.out, HS1.out, HS2.out] at hfo
          have hvo : okT v = true := okT_iff.2 (by omega)
          have hat : (hdL f t (n : Int) n)[k]? = some v := by rw [hdL_at _ _ _ _ _ hlt, hv]
          obtain ⟨a, ea, hab, ca, cb⟩ := GL.out.third hat
          have hab' : (a.add (k * 2)).block < wm.heap.size := by rw [add_blk]; exact hab
          have hfb2 := force_in (A := 2000) (B := 1000) hvb HB2.out
          have hwa : inB v.a (-2000) 2000 = true := inB_iff.2 (by omega)
          have hwb : inB v.b (-2000) 2000 = true := inB_iff.2 (by omega)
          have hki : inB (k : Int) (-1000000) 1000000 = true := inB_iff.2 (by omega)
          have HT1 := Lib.hid (Turned_ok v (k : Int) hvo hki)
          have HT2 := Lib.hid (Turned_ok fl (k : Int) HO2.out hki)
          have HT3 := Lib.hid (forceOf_ok (turned v (k : Int)) (turned fl (k : Int)) (turned_small hvb) (turned_small (by have := HB2.out; omega)))
          have hpt : forceV (turned v (k : Int)) (turned fl (k : Int)) = forceV v fl := congrArg T3.b (prod_turned v fl (k : Int))
          rw [hpt] at HT3
          obtain ⟨nn, hnn⟩ : ∃ x, len * forceV v fl = x := ⟨_, rfl⟩
          have HFA := Lib.hid (force2_any v fl p len nn ⟨p0, p1⟩ ⟨l0, l1⟩ hvo HO2.out hnn)
          have hm2 := mulB (x := len) (y := forceV v fl) (A := 500) (B := 4000000) ⟨by omega, by omega⟩ ⟨by omega, by omega⟩
          have hm3 := mulB (x := len) (y := q) (A := 500) (B := 2000000) ⟨by omega, by omega⟩ ⟨by omega, by omega⟩
          have hd1 : len * (forceV v fl - q) = nn - len * q := by rw [Int.mul_sub, hnn]
          have hd2 : len * (forceV v fl - q) ≤ len * (sa + sb) := Int.mul_le_mul_of_nonneg_left (by omega) (by omega)
          have hd3 : len * -(forceV v fl - q) ≤ len * (sa + sb) := Int.mul_le_mul_of_nonneg_left (by omega) (by omega)
          rw [Int.mul_neg] at hd3
          rw [hd1] at hd2 hd3
          rw [HMO.out] at hd2 hd3
          obtain ⟨lq, hlq⟩ : ∃ x, len * q = x := ⟨_, rfl⟩
          rw [hlq] at hd2 hd3 hm3
          rw [hnn] at hm2
          have HWX : Hid (IntKind.i64.wrap (len * q) = lq ∧ IntKind.i64.wrap (len * forceV v fl) = nn) := Lib.hid ⟨by rw [hlq]; exact IntWalk.i64_in _ ⟨by omega, by omega⟩, by rw [hnn]; exact IntWalk.i64_in _ ⟨by omega, by omega⟩⟩
          have hmx : ¬ most < max (nn - lq) (-(nn - lq)) := by omega
          obtain ⟨dd, hdd⟩ : ∃ x, max (nn - lq) (-(nn - lq)) = x := ⟨_, rfl⟩
          have HSD : Hid (∀ w, Calls Tryd.prog 50 #[.int .i64 (nn - lq)] w fun e w' => e = .returned (.int .i64 dd) ∧ w = w') := Lib.hid (fun w => by rw [← hdd]; exact Size_any _ (by omega) (by omega) w)
          rw [hdd] at hmx
          have HMX := Lib.hid hmx
          have HCV : Hid (∀ W, Below wm.heap.size wm W → W.cell? (a.add (k * 2)) = some (.int .i64 v.a) ∧ W.cell? ⟨(a.add (k * 2)).block, (a.add (k * 2)).off + 1, none⟩ = some (.int .i64 v.b)) := Lib.hid (fun W hb => ⟨(hb.cell hab').trans ca, (hb.cell (p := ⟨(a.add (k * 2)).block, (a.add (k * 2)).off + 1, none⟩) hab').trans cb⟩)
          have HCT : Hid (∀ W, Fr wm W [(wm.heap.size + 1, 92, #[.slice (some ⟨wm.heap.size, 0, none⟩) 2 2]), (wm.heap.size, 3, #[.int .i64 500, .int .i64 500]), (w.heap.size + 1 + 1, 85, #[.int .i64 p, .int .i64 len]), (w.heap.size + 1, 24, #[.int .i64 fl.a, .int .i64 fl.b]), (w.heap.size, 84, #[.int .i64 f.a, .int .i64 f.b, .int .i64 t.a, .int .i64 t.b, .int .i64 (n : Int)])] → Calls Tryd.prog 52 #[.agg #[.slice (some ⟨wm.heap.size, 0, none⟩) 2 2]] W (CopiedNs W)) := Lib.hid (fun W hW => copyNs_any _ W (hW.get 1 rfl))
          obtain ⟨GA, gc⟩ := g
          simp only at ea
          subst ea
          clear hat ca cb hab hab' hb1 hb2 hfo hvb hvo hki hpt hd1 hd2 hd3 hmx hdd hlq hnn hv
          generalize forceV v fl = fv at *
          generalize (turned v (k : Int)).a = ta at *
          generalize (turned v (k : Int)).b = tb at *
          generalize (turned fl (k : Int)).a = ua at *
          generalize (turned fl (k : Int)).b = ub at *
          generalize v.a = va at *
          generalize v.b = vb at *
          obtain ⟨x0, x1⟩ := HCV.out _ FK.out.bl
          have y0 := (FK.out.get 3 rfl).cell 0
          have y1 := (FK.out.get 3 rfl).cell 1
          have y2 := (FK.out.get 2 rfl).cell 0
          have y3 := (FK.out.get 2 rfl).cell 1
          have y4 := (FK.out.get 0 rfl).cell 0
          go_upto_region 19 with (go_at_call 18; refine (Within_any _ _ _ _).mono ?_; rintro e w' ⟨rfl, rfl⟩; (first | rw [hwa] | rw [hwb]))
          go_cut [16, 17] from 139 to 160 (fun r u W => r = .int .i64 nn ∧ u = .int .i64 0 ∧ Fr wm W [(wm.heap.size + 1, 92, #[.slice (some ⟨wm.heap.size, 0, none⟩) 2 2]), (wm.heap.size, 3, #[.int .i64 500, .int .i64 500]), (w.heap.size + 1 + 1, 85, #[.int .i64 p, .int .i64 len]), (w.heap.size + 1, 24, #[.int .i64 fl.a, .int .i64 fl.b]), (w.heap.size, 84, #[.int .i64 f.a, .int .i64 f.b, .int .i64 t.a, .int .i64 t.b, .int .i64 (n : Int)])])
          case first =>
            have HALL : Hid (∀ W, Fr wm W [(wm.heap.size + 1, 92, #[.slice (some ⟨wm.heap.size, 0, none⟩) 2 2]), (wm.heap.size, 3, #[.int .i64 500, .int .i64 500]), (w.heap.size + 1 + 1, 85, #[.int .i64 p, .int .i64 len]), (w.heap.size + 1, 24, #[.int .i64 fl.a, .int .i64 fl.b]), (w.heap.size, 84, #[.int .i64 f.a, .int .i64 f.b, .int .i64 t.a, .int .i64 t.b, .int .i64 (n : Int)])] → Fr wm W [(wm.heap.size + 1, 92, #[.slice (some ⟨wm.heap.size, 0, none⟩) 2 2]), (wm.heap.size, 3, #[.int .i64 500, .int .i64 500]), (w.heap.size + 1 + 1, 85, #[.int .i64 p, .int .i64 len]), (w.heap.size + 1, 24, #[.int .i64 fl.a, .int .i64 fl.b]), (w.heap.size, 84, #[.int .i64 f.a, .int .i64 f.b, .int .i64 t.a, .int .i64 t.b, .int .i64 (n : Int)])] ∧ W.cell? ⟨w.heap.size + 1, 0, none⟩ = some (.int .i64 fl.a) ∧ W.cell? ⟨w.heap.size + 1, 1, none⟩ = some (.int .i64 fl.b) ∧ W.cell? ⟨w.heap.size + 1 + 1, 0, none⟩ = some (.int .i64 p) ∧ W.cell? ⟨w.heap.size + 1 + 1, 1, none⟩ = some (.int .i64 len) ∧ W.cell? ⟨wm.heap.size + 1, 0, none⟩ = some (.slice (some ⟨wm.heap.size, 0, none⟩) 2 2) ∧ W.cell? (a.add (k * 2)) = some (.int .i64 va) ∧ W.cell? ⟨(a.add (k * 2)).block, (a.add (k * 2)).off + 1, none⟩ = some (.int .i64 vb)) := Lib.hid (fun W hW => ⟨hW, (hW.get 3 rfl).cell 0, (hW.get 3 rfl).cell 1, (hW.get 2 rfl).cell 0, (hW.get 2 rfl).cell 1, (hW.get 0 rfl).cell 0, HCV.out W hW.bl⟩)
            have F10 : Fr wm _ [(wm.heap.size + 1, 92, #[.slice (some ⟨wm.heap.size, 0, none⟩) 2 2]), (wm.heap.size, 3, #[.int .i64 500, .int .i64 500]), (w.heap.size + 1 + 1, 85, #[.int .i64 p, .int .i64 len]), (w.heap.size + 1, 24, #[.int .i64 fl.a, .int .i64 fl.b]), (w.heap.size, 84, #[.int .i64 f.a, .int .i64 f.b, .int .i64 t.a, .int .i64 t.b, .int .i64 (n : Int)])] := FK.out
            clear FK x0 x1 y0 y1 y2 y3 y4 hwa hwb
            go_region_held3 (fun W => Fr wm W [(wm.heap.size + 1, 92, #[.slice (some ⟨wm.heap.size, 0, none⟩) 2 2]), (wm.heap.size, 3, #[.int .i64 500, .int .i64 500]), (w.heap.size + 1 + 1, 85, #[.int .i64 p, .int .i64 len]), (w.heap.size + 1, 24, #[.int .i64 fl.a, .int .i64 fl.b]), (w.heap.size, 84, #[.int .i64 f.a, .int .i64 f.b, .int .i64 t.a, .int .i64 t.b, .int .i64 (n : Int)])] ∧ W.cell? ⟨w.heap.size + 1, 0, none⟩ = some (.int .i64 fl.a) ∧ W.cell? ⟨w.heap.size + 1, 1, none⟩ = some (.int .i64 fl.b) ∧ W.cell? ⟨w.heap.size + 1 + 1, 0, none⟩ = some (.int .i64 p) ∧ W.cell? ⟨w.heap.size + 1 + 1, 1, none⟩ = some (.int .i64 len) ∧ W.cell? ⟨wm.heap.size + 1, 0, none⟩ = some (.slice (some ⟨wm.heap.size, 0, none⟩) 2 2) ∧ W.cell? (a.add (k * 2)) = some (.int .i64 va) ∧ W.cell? ⟨(a.add (k * 2)).block, (a.add (k * 2)).off + 1, none⟩ = some (.int .i64 vb))
              ((go_split_ands; refine HALL.out _ ?_; (first | assumption | (repeat (first | assumption | refine Fr.new ?_ _ | refine Fr.drew ?_ | (refine Fr.set ?_ (by first | exact Nat.le_refl _ | omega | (simp; done) | (simp; omega)) (by first | (simp; done) | (simp; omega)) _))); done)))
              ((first
                | (go_at_call 52; go_split_ands; (with_reducible refine (HCT.out _ (by assumption)).mono ?_); rintro e w8 ⟨g2, rfl, hl2, _, hb8⟩; have HL1 := Lib.hid hl2; (first | (have N1 : Bk _ _ 24 #[.int .i64 va, .int .i64 vb, .int .i64 va, .int .i64 vb] := Bk.after rfl hb8; have N2 := Lib.hid N1; clear N1) | (have N1 : Bk _ _ 24 #[.int .i64 va, .int .i64 vb, .int .i64 va, .int .i64 vb] := Bk.after_drew rfl hb8; have N2 := Lib.hid N1; clear N1) | skip); have F4 := Fr.call (by assumption) hb8; clear hb8 hl2)
                | (go_at_call 51; go_split_ands; (with_reducible refine (HFA.out _ _ _ _ _ (by first | exact HL1.out | exact Lies.new HL1.out _ | exact Fr.lies HL1.out (Fr.nil _).drew) (by first | exact Lies.bk4 (Bk.new _ _ _) | exact Lies.bk4 (Hid.out (by assumption)) | exact Lies.bk4 (Bk.drew (Bk.new _ _ _)))).mono ?_); rintro e w9 ⟨rfl, hb9⟩; have F5 := Fr.call (by first | assumption | exact Fr.new (by assumption) _) hb9; clear hb9)
                | fail "arm"))
            all_goals
              go_split_ands
              go_wp2_with fail
              go_meet
              exact ⟨rfl, rfl, by assumption⟩
          case rest =>
            obtain ⟨wx, rfl⟩ : ∃ W, W = wc := ⟨_, rfl⟩
            obtain ⟨rfl, rfl, hx⟩ := hcut
            have F5 : Hid (Fr wm _ [(wm.heap.size + 1, 92, #[.slice (some ⟨wm.heap.size, 0, none⟩) 2 2]), (wm.heap.size, 3, #[.int .i64 500, .int .i64 500]), (w.heap.size + 1 + 1, 85, #[.int .i64 p, .int .i64 len]), (w.heap.size + 1, 24, #[.int .i64 fl.a, .int .i64 fl.b]), (w.heap.size, 84, #[.int .i64 f.a, .int .i64 f.b, .int .i64 t.a, .int .i64 t.b, .int .i64 (n : Int)])]) := Lib.hid hx
            clear hx FK x0 x1 y0 y1 y2 y3 y4 hwa hwb
            obtain ⟨x0, x1⟩ := HCV.out _ F5.out.bl
            go_wp2_with fail
            refine (HT1.out _).mono ?_
            rintro e w6 ⟨rfl, hb6⟩
            have F6 : Hid (Fr wm _ ((w6.heap.size, 24, #[.int .i64 ta, .int .i64 tb]) :: [(wm.heap.size + 1, 92, #[.slice (some ⟨wm.heap.size, 0, none⟩) 2 2]), (wm.heap.size, 3, #[.int .i64 500, .int .i64 500]), (w.heap.size + 1 + 1, 85, #[.int .i64 p, .int .i64 len]), (w.heap.size + 1, 24, #[.int .i64 fl.a, .int .i64 fl.b]), (w.heap.size, 84, #[.int .i64 f.a, .int .i64 f.b, .int .i64 t.a, .int .i64 t.b, .int .i64 (n : Int)])])) := Lib.hid (Fr.box (F5.out.call hb6) 24 #[.int .i64 ta, .int .i64 tb])
            have z6 := (F5.out.call hb6).size
            clear hb6 F5 x0 x1
            have y0 := (F6.out.get 4 rfl).cell 0
            have y1 := (F6.out.get 4 rfl).cell 1
            go_wp2_with fail
            refine (HT2.out _).mono ?_
            rintro e w7 ⟨rfl, hb7⟩
            have F7 : Hid (Fr wm _ ((w7.heap.size, 24, #[.int .i64 ua, .int .i64 ub]) :: ((w6.heap.size, 24, #[.int .i64 ta, .int .i64 tb]) :: [(wm.heap.size + 1, 92, #[.slice (some ⟨wm.heap.size, 0, none⟩) 2 2]), (wm.heap.size, 3, #[.int .i64 500, .int .i64 500]), (w.heap.size + 1 + 1, 85, #[.int .i64 p, .int .i64 len]), (w.heap.size + 1, 24, #[.int .i64 fl.a, .int .i64 fl.b]), (w.heap.size, 84, #[.int .i64 f.a, .int .i64 f.b, .int .i64 t.a, .int .i64 t.b, .int .i64 (n : Int)])]))) := Lib.hid (Fr.box (F6.out.call hb7) 24 #[.int .i64 ua, .int .i64 ub])
            have z7 := (F6.out.call hb7).size
            clear hb7 F6 y0 y1
            have y0 := (F7.out.get 0 rfl).cell 0
            have y1 := (F7.out.get 0 rfl).cell 1
            have y2 := (F7.out.get 1 rfl).cell 0
            have y3 := (F7.out.get 1 rfl).cell 1
            go_wp2_with fail
            refine (HT3.out _).mono ?_
            rintro e w8 ⟨rfl, hb8⟩
            have F8 : Hid (Fr wm _ ((w7.heap.size, 24, #[.int .i64 ua, .int .i64 ub]) :: ((w6.heap.size, 24, #[.int .i64 ta, .int .i64 tb]) :: [(wm.heap.size + 1, 92, #[.slice (some ⟨wm.heap.size, 0, none⟩) 2 2]), (wm.heap.size, 3, #[.int .i64 500, .int .i64 500]), (w.heap.size + 1 + 1, 85, #[.int .i64 p, .int .i64 len]), (w.heap.size + 1, 24, #[.int .i64 fl.a, .int .i64 fl.b]), (w.heap.size, 84, #[.int .i64 f.a, .int .i64 f.b, .int .i64 t.a, .int .i64 t.b, .int .i64 (n : Int)])]))) := Lib.hid (F7.out.call hb8)
            clear hb8 F7 y0 y1 y2 y3
            have y0 := (F8.out.get 4 rfl).cell 0
            have y1 := (F8.out.get 4 rfl).cell 1
            obtain ⟨wx1, wx2⟩ := HWX.out
            have hmx := HMX.out
            go_wp2_with (go_at_call 50; (with_reducible refine (HSD.out _).mono ?_); rintro e w' ⟨rfl, rfl⟩)
            clear wx1 wx2 hmx
            go_roundw
            case rel => exact ⟨k + 1, by omega, by go_num, F8.out.tail.tail⟩
            case measure => simp [intOf]; omega
        · obtain rfl : k = n := by omega
          go_wp2_with fail
          go_ret
          exact ⟨rfl, Below.step BW.out FK.out.bl⟩

set_option maxHeartbeats 8000000 in
set_option maxRecDepth 100000 in
theorem TopStatorNoStep_any (f t : T3) (n : Int) (fl : T3) (p len : Int) (w : World) (hT : Tab w) : Calls Tryd.prog 7 #[.agg #[.int .i64 f.a, .int .i64 f.b, .int .i64 t.a, .int .i64 t.b, .int .i64 n], (.agg #[.int .i64 fl.a, .int .i64 fl.b]), .agg #[.int .i64 p, .int .i64 len]] w fun e w' => e = .returned (.bool true) ∧ Below w.heap.size w w' := by
  cases h0 : smT f with
  | false => exact tns_out0 f t fl n p len h0 w hT
  | true =>
    cases h1 : smT t with
    | false => exact tns_out1 f t fl n p len h0 h1 w hT
    | true =>
      cases h2 : smT fl with
      | false => exact tns_out2 f t fl n p len h0 h1 h2 w hT
      | true =>
        cases h3 : inB n 1 20 with
        | false => exact tns_out3 f t fl n p len h0 h1 h2 h3 w hT
        | true =>
          cases h4 : inB p 0 500 with
          | false => exact tns_out4 f t fl n p len h0 h1 h2 h3 h4 w hT
          | true =>
            cases h5 : inB len 1 500 with
            | false => exact tns_out5 f t fl n p len h0 h1 h2 h3 h4 h5 w hT
            | true =>
              obtain ⟨m, rfl⟩ : ∃ m : Nat, n = (m : Int) := ⟨n.toNat, by have := (inB_iff.1 h3).1; omega⟩
              exact tns_ok f t fl m p len h0 h1 h2 h3 h4 h5 w hT
end Go.Proofs.YtohldmmfnjfgmaaDoor
