
/-
  The walk of BrakeSquares.
-/
import Derived.Test.YtmjooiocgeoaiaaBKit
import Derived.Test.YtmjooiocgeoaiaaBQk
import Derived.Test.YtmjooiocgeoaiaaBCp
import Derived.Test.YtmjooiocgeoaiaaBErr
namespace Go.Proofs.Ytmjooiocgeoaiaa
open Go.RowKit

set_option maxHeartbeats 8000000 in
set_option maxRecDepth 100000 in
theorem sq_long (s : ByteArray) (hs : s.size ≤ maxLen) (ps : List Bp) (A : Option Addr) (c : Nat) (hg : HdOk ⟨A, c⟩) (hl : ps.length ≤ maxLen) (b : Bs) (l : List Int) (B : Option Addr) (d : Nat) (hgr : HdOk ⟨B, d⟩) (hll : l.length ≤ maxLen) (hsh : shortB s ps = false) (w : World) (hA : Lies w w.heap.size A (ps.flatMap pc)) (hB : Lies w w.heap.size B (ic l)) : Calls Try.prog 4 #[.agg #[.string s, .slice A ps.length c], .agg #[.int .i64 b.brk, .int .i64 b.drag, .int .i64 b.drv], .slice B l.length d] w fun e w' => e = .returned (.bool true) ∧ Below w.heap.size w w' := by
  have F0 := Lib.hid (Fr.b2 w 24 #[.string s, .slice A ps.length c] 26 #[.int .i64 b.brk, .int .i64 b.drag, .int .i64 b.drv])
  have HA := Lib.hid hA
  have HG := Lib.hid hg
  have HLR := Lib.hid hB
  have HGR := Lib.hid hgr
  clear hA hg hB hgr
  have HSH := Lib.hid hsh
  clear hsh
  go_enter Try.func4, Try.ntmps4
  go_wp2_with fail
  refine (awake_any _).mono ?_
  rintro e w1 ⟨rfl, hb1⟩
  have G1 := Fr.call F0.out hb1
  obtain ⟨k0_0, k0_1, kf0, kg0⟩ := (G1.get 1 rfl).two
  have kz0 := (G1.get 1 rfl).lt
  obtain ⟨k1_0, k1_1, k1_2⟩ := (G1.get 0 rfl).three
  have kz1 := (G1.get 0 rfl).lt
  have F1 : Hid (Fr w _ [(w.heap.size + 1, 26, #[.int .i64 b.brk, .int .i64 b.drag, .int .i64 b.drv]), (w.heap.size, 24, #[.string s, .slice A ps.length c])]) := Lib.hid G1
  clear hb1 G1 F0
  go_wp2_with fail
  refine (Short_any s hs ps A c hl _).mono ?_
  rintro e w2 ⟨rfl, hb2⟩
  rw [HSH.out]
  clear k0_0 k0_1 kf0 kg0 kz0 k1_0 k1_1 k1_2 kz1
  have G2 := Fr.call F1.out hb2
  obtain ⟨k0_0, k0_1, kf0, kg0⟩ := (G2.get 1 rfl).two
  have kz0 := (G2.get 1 rfl).lt
  obtain ⟨k1_0, k1_1, k1_2⟩ := (G2.get 0 rfl).three
  have kz1 := (G2.get 0 rfl).lt
  have F2 : Hid (Fr w _ [(w.heap.size + 1, 26, #[.int .i64 b.brk, .int .i64 b.drag, .int .i64 b.drv]), (w.heap.size, 24, #[.string s, .slice A ps.length c])]) := Lib.hid G2
  clear hb2 G2 F1
  go_wp2_with fail
  go_ret
  exact ⟨rfl, F2.out.bl⟩

set_option maxHeartbeats 8000000 in
set_option maxRecDepth 100000 in
theorem sq_big (s : ByteArray) (hs : s.size ≤ maxLen) (ps : List Bp) (A : Option Addr) (c : Nat) (hg : HdOk ⟨A, c⟩) (hl : ps.length ≤ maxLen) (b : Bs) (l : List Int) (B : Option Addr) (d : Nat) (hgr : HdOk ⟨B, d⟩) (hll : l.length ≤ maxLen) (hsh : shortB s ps = true) (h16 : 16 < l.length) (w : World) (hA : Lies w w.heap.size A (ps.flatMap pc)) (hB : Lies w w.heap.size B (ic l)) : Calls Try.prog 4 #[.agg #[.string s, .slice A ps.length c], .agg #[.int .i64 b.brk, .int .i64 b.drag, .int .i64 b.drv], .slice B l.length d] w fun e w' => e = .returned (.bool true) ∧ Below w.heap.size w w' := by
  have h16i : (16 : Int) < (l.length : Int) := by omega
  have F0 := Lib.hid (Fr.b2 w 24 #[.string s, .slice A ps.length c] 26 #[.int .i64 b.brk, .int .i64 b.drag, .int .i64 b.drv])
  have HA := Lib.hid hA
  have HG := Lib.hid hg
  have HLR := Lib.hid hB
  have HGR := Lib.hid hgr
  clear hA hg hB hgr
  have HSH := Lib.hid hsh
  have hl14 : ps.length ≤ 14 := (short_iff.1 hsh).2
  clear hsh
  go_enter Try.func4, Try.ntmps4
  go_wp2_with fail
  refine (awake_any _).mono ?_
  rintro e w1 ⟨rfl, hb1⟩
  have G1 := Fr.call F0.out hb1
  obtain ⟨k0_0, k0_1, kf0, kg0⟩ := (G1.get 1 rfl).two
  have kz0 := (G1.get 1 rfl).lt
  obtain ⟨k1_0, k1_1, k1_2⟩ := (G1.get 0 rfl).three
  have kz1 := (G1.get 0 rfl).lt
  have F1 : Hid (Fr w _ [(w.heap.size + 1, 26, #[.int .i64 b.brk, .int .i64 b.drag, .int .i64 b.drv]), (w.heap.size, 24, #[.string s, .slice A ps.length c])]) := Lib.hid G1
  clear hb1 G1 F0
  go_wp2_with fail
  refine (Short_any s hs ps A c hl _).mono ?_
  rintro e w2 ⟨rfl, hb2⟩
  rw [HSH.out]
  clear k0_0 k0_1 kf0 kg0 kz0 k1_0 k1_1 k1_2 kz1
  have G2 := Fr.call F1.out hb2
  obtain ⟨k0_0, k0_1, kf0, kg0⟩ := (G2.get 1 rfl).two
  have kz0 := (G2.get 1 rfl).lt
  obtain ⟨k1_0, k1_1, k1_2⟩ := (G2.get 0 rfl).three
  have kz1 := (G2.get 0 rfl).lt
  have F2 : Hid (Fr w _ [(w.heap.size + 1, 26, #[.int .i64 b.brk, .int .i64 b.drag, .int .i64 b.drv]), (w.heap.size, 24, #[.string s, .slice A ps.length c])]) := Lib.hid G2
  clear hb2 G2 F1
  go_wp2_with fail
  go_ret
  exact ⟨rfl, F2.out.bl⟩

set_option maxHeartbeats 8000000 in
set_option maxRecDepth 100000 in
theorem sq_A (s : ByteArray) (hs : s.size ≤ maxLen) (ps : List Bp) (A : Option Addr) (c : Nat) (hg : HdOk ⟨A, c⟩) (hl : ps.length ≤ maxLen) (b : Bs) (l : List Int) (B : Option Addr) (d : Nat) (hgr : HdOk ⟨B, d⟩) (hll : l.length ≤ maxLen) (c0 q : Int) (hsh : shortB s ps = true) (h16 : l.length ≤ 16) (hT : (trE s ps).2 = c0) (hO : bothE s ps b = c0) (hS : sqsE ps l = q) (hck : (∀ (A' : Option Addr) (c' : Nat) (B' : Option Addr) (d' : Nat) (W : World), Lies W W.heap.size A' (ps.flatMap pc) → Lies W W.heap.size B' (ic l) → Calls Try.prog 18 #[.agg #[.string s, .slice A' ps.length c'], .agg #[.int .i64 b.brk, .int .i64 b.drag, .int .i64 b.drv], .slice B' l.length d'] W fun e w' => e = .returned (.tuple #[.int .i64 0, .int .i64 c0]) ∧ Below W.heap.size W w')) (htm : (∀ (A' : Option Addr) (c' : Nat) (B' : Option Addr) (d' : Nat) (W : World), Lies W W.heap.size A' (ps.flatMap pc) → Lies W W.heap.size B' (ic l) → Calls Try.prog 20 #[.agg #[.string s, .slice A' ps.length c'], .slice B' l.length d'] W fun e w' => e = .returned (.tuple #[.agg #[.int .i64 0, .int .i64 0], .int .i64 c0]) ∧ Below W.heap.size W w'))   (hc : c0 ≠ 0) (w : World) (hA : Lies w w.heap.size A (ps.flatMap pc)) (hB : Lies w w.heap.size B (ic l)) : Calls Try.prog 4 #[.agg #[.string s, .slice A ps.length c], .agg #[.int .i64 b.brk, .int .i64 b.drag, .int .i64 b.drv], .slice B l.length d] w fun e w' => e = .returned (.bool true) ∧ Below w.heap.size w w' := by
  have HSQ : Hid (∀ W, Lies W W.heap.size B (ic l) → Calls Try.prog 22 #[.agg #[.string s, .slice A ps.length c], .slice B l.length d] W fun e w' => e = .returned (.int .i64 q) ∧ Below W.heap.size W w') := Lib.hid (fun W h => by have := SquaresErr_any s ps A c (by have := (short_iff.1 hsh).2; omega) l B d hll W h; rw [hS] at this; exact this)
  have HCI : Hid (∀ W : World, Lies W W.heap.size B (ic l) → Calls Try.prog 19 #[.slice B l.length d] W fun e w' => ∃ g : Hd, e = .returned (.slice g.A l.length g.c) ∧ Lies w' w'.heap.size g.A (ic l) ∧ HdOk g ∧ (∀ a, g.A = some a → W.heap.size ≤ a.block) ∧ Below W.heap.size W w') := Lib.hid (fun W h => CopyInts_any l ⟨B, d⟩ (by omega) hgr W h)
  obtain ⟨NR, hNR⟩ : ∃ n, l.length = n := ⟨_, rfl⟩
  have HNR := Lib.hid hNR
  rw [hNR] at HSQ HCI h16 hck htm ⊢
  have HCK := Lib.hid hck
  have HTM := Lib.hid htm
  have HTR := Lib.hid hT
  have HBO := Lib.hid hO
  have h16i : ¬ (16 : Int) < (NR : Int) := by omega
  clear hNR hT hO hS hck htm
  have b1c0 : (c0 == 0) = false := by simp [hc]
  have b2c0 : (c0 != 0) = true := by simp [hc]
  have F0 := Lib.hid (Fr.b2 w 24 #[.string s, .slice A ps.length c] 26 #[.int .i64 b.brk, .int .i64 b.drag, .int .i64 b.drv])
  have HA := Lib.hid hA
  have HG := Lib.hid hg
  have HLR := Lib.hid hB
  have HGR := Lib.hid hgr
  clear hA hg hB hgr
  have HSH := Lib.hid hsh
  have hl14 : ps.length ≤ 14 := (short_iff.1 hsh).2
  clear hsh
  clear hll
  go_enter Try.func4, Try.ntmps4
  go_wp2_with fail
  refine (awake_any _).mono ?_
  rintro e w1 ⟨rfl, hb1⟩
  have G1 := Fr.call F0.out hb1
  obtain ⟨k0_0, k0_1, kf0, kg0⟩ := (G1.get 1 rfl).two
  have kz0 := (G1.get 1 rfl).lt
  obtain ⟨k1_0, k1_1, k1_2⟩ := (G1.get 0 rfl).three
  have kz1 := (G1.get 0 rfl).lt
  have F1 : Hid (Fr w _ [(w.heap.size + 1, 26, #[.int .i64 b.brk, .int .i64 b.drag, .int .i64 b.drv]), (w.heap.size, 24, #[.string s, .slice A ps.length c])]) := Lib.hid G1
  clear hb1 G1 F0
  go_wp2_with fail
  refine (Short_any s hs ps A c hl _).mono ?_
  rintro e w2 ⟨rfl, hb2⟩
  rw [HSH.out]
  clear k0_0 k0_1 kf0 kg0 kz0 k1_0 k1_1 k1_2 kz1
  have G2 := Fr.call F1.out hb2
  obtain ⟨k0_0, k0_1, kf0, kg0⟩ := (G2.get 1 rfl).two
  have kz0 := (G2.get 1 rfl).lt
  obtain ⟨k1_0, k1_1, k1_2⟩ := (G2.get 0 rfl).three
  have kz1 := (G2.get 0 rfl).lt
  have F2 : Hid (Fr w _ [(w.heap.size + 1, 26, #[.int .i64 b.brk, .int .i64 b.drag, .int .i64 b.drv]), (w.heap.size, 24, #[.string s, .slice A ps.length c])]) := Lib.hid G2
  clear hb2 G2 F1
  go_upto_region 5 with fail
  clear k0_0 k0_1 kf0 kg0 kz0 k1_0 k1_1 k1_2 kz1
  go_cut [7, 8] from 25 to 33 (fun r e W => (r = .int .i64 0 ∧ e = .int .i64 c0) ∧ Fr w2 W [])
  case first =>
    have HALL : Hid (∀ W, Fr w2 W [] → Fr w2 W [] ∧ W.cell? ⟨w.heap.size, 0, none⟩ = some (.string s) ∧ W.cell? ⟨w.heap.size, 1, none⟩ = some (.slice A ps.length c) ∧ W.cell? ⟨w.heap.size + 1, 0, none⟩ = some (.int .i64 b.brk) ∧ W.cell? ⟨w.heap.size + 1, 1, none⟩ = some (.int .i64 b.drag) ∧ W.cell? ⟨w.heap.size + 1, 2, none⟩ = some (.int .i64 b.drv)) := Lib.hid (fun W hW => ⟨hW, ((F2.out.get 1 rfl).call hW.bl).cell 0, ((F2.out.get 1 rfl).call hW.bl).cell 1, ((F2.out.get 0 rfl).call hW.bl).cell 0, ((F2.out.get 0 rfl).call hW.bl).cell 1, ((F2.out.get 0 rfl).call hW.bl).cell 2⟩)
    have HAC := Lib.hid (Fr.lies HA.out F2.out); have HRC := Lib.hid (Fr.lies HLR.out F2.out)
    have F10 : Fr w2 _ [] := Fr.nil w2
    go_region_held3 (fun W => Fr w2 W [] ∧ W.cell? ⟨w.heap.size, 0, none⟩ = some (.string s) ∧ W.cell? ⟨w.heap.size, 1, none⟩ = some (.slice A ps.length c) ∧ W.cell? ⟨w.heap.size + 1, 0, none⟩ = some (.int .i64 b.brk) ∧ W.cell? ⟨w.heap.size + 1, 1, none⟩ = some (.int .i64 b.drag) ∧ W.cell? ⟨w.heap.size + 1, 2, none⟩ = some (.int .i64 b.drv))
        ((go_split_ands; refine HALL.out _ ?_; (first | assumption | (repeat (first | assumption | refine Fr.new ?_ _ | refine Fr.drew ?_ | (refine Fr.set ?_ (by first | exact Nat.le_refl _ | omega | (simp; done) | (simp; omega)) (by first | (simp; done) | (simp; omega)) _))); done)))
        ((first
          | (go_at_call 10; go_split_ands; (with_reducible refine (Copy_any s ps ⟨A, c⟩ (by omega) HG.out _ (Fr.lies HAC.out (by assumption))).mono ?_); rintro e w1 ⟨g2, rfl, hl2, hk2, hb1⟩; have HL2 := Lib.hid hl2; have F4 := Fr.call (by assumption) hb1; clear hb1 hl2 hk2)
          | (go_at_call 19; go_split_ands; (with_reducible refine (HCI.out _ (Fr.lies HRC.out (by assumption))).mono ?_); rintro e w1 ⟨g4, rfl, hl4, hk4, _, hb1⟩; have HL4 := Lib.hid hl4; have F6 := Fr.call (by assumption) hb1; have HL2 := Lib.hid (Lies.call HL2.out hb1); clear hb1 hl4 hk4)
          | (go_at_call 18; go_split_ands; (with_reducible refine (HCK.out _ _ _ _ _ HL2.out HL4.out).mono ?_); rintro e w1 ⟨rfl, hb1⟩; have F5 := Fr.call (by assumption) hb1; clear hb1)
          | fail "arm"))
    all_goals
      go_split_ands
      go_wp2_with fail
      go_meet
      exact ⟨⟨rfl, rfl⟩, by assumption⟩
  case rest =>
    obtain ⟨wx1, rfl⟩ : ∃ W, W = wc := ⟨_, rfl⟩
    obtain ⟨⟨rfl, rfl⟩, hx⟩ := hcut
    have FC1 := Lib.hid (F2.out.call hx.bl)
    clear hx F2
    obtain ⟨k0_0, k0_1, kf0, kg0⟩ := (FC1.out.get 1 rfl).two
    have kz0 := (FC1.out.get 1 rfl).lt
    obtain ⟨k1_0, k1_1, k1_2⟩ := (FC1.out.get 0 rfl).three
    have kz1 := (FC1.out.get 0 rfl).lt
    go_wp2_with fail
    refine (Copy_any s ps ⟨A, c⟩ (by omega) HG.out _ (Fr.lies HA.out FC1.out)).mono ?_
    rintro e w21 ⟨g9, rfl, hl9, hk9, hb21⟩
    clear k0_0 k0_1 kf0 kg0 kz0 k1_0 k1_1 k1_2 kz1
    have G21 := Fr.call FC1.out hb21
    have HL2 := Lib.hid hl9
    obtain ⟨k0_0, k0_1, kf0, kg0⟩ := (G21.get 1 rfl).two
    have kz0 := (G21.get 1 rfl).lt
    obtain ⟨k1_0, k1_1, k1_2⟩ := (G21.get 0 rfl).three
    have kz1 := (G21.get 0 rfl).lt
    have F21 : Hid (Fr w _ [(w.heap.size + 1, 26, #[.int .i64 b.brk, .int .i64 b.drag, .int .i64 b.drv]), (w.heap.size, 24, #[.string s, .slice A ps.length c])]) := Lib.hid G21
    clear hb21 G21 FC1
    clear hl9 hk9
    go_wp2_with fail
    refine (HCI.out _ (Fr.lies HLR.out F21.out)).mono ?_
    rintro e w22 ⟨g10, rfl, hl10, hk10, _, hb22⟩
    clear k0_0 k0_1 kf0 kg0 kz0 k1_0 k1_1 k1_2 kz1
    have G22 := Fr.call F21.out hb22
    have HL4 := Lib.hid hl10
    have HL2 := Lib.hid (Lies.call HL2.out hb22)
    obtain ⟨k0_0, k0_1, kf0, kg0⟩ := (G22.get 1 rfl).two
    have kz0 := (G22.get 1 rfl).lt
    obtain ⟨k1_0, k1_1, k1_2⟩ := (G22.get 0 rfl).three
    have kz1 := (G22.get 0 rfl).lt
    have F22 : Hid (Fr w _ [(w.heap.size + 1, 26, #[.int .i64 b.brk, .int .i64 b.drag, .int .i64 b.drv]), (w.heap.size, 24, #[.string s, .slice A ps.length c])]) := Lib.hid G22
    clear hb22 G22 F21
    clear hl10 hk10
    go_wp2_with fail
    refine (HTM.out _ _ _ _ _ HL2.out HL4.out).mono ?_
    rintro e w23 ⟨rfl, hb23⟩
    clear k0_0 k0_1 kf0 kg0 kz0 k1_0 k1_1 k1_2 kz1
    have G23 := Fr.call F22.out hb23
    obtain ⟨k0_0, k0_1, kf0, kg0⟩ := (G23.get 1 rfl).two
    have kz0 := (G23.get 1 rfl).lt
    obtain ⟨k1_0, k1_1, k1_2⟩ := (G23.get 0 rfl).three
    have kz1 := (G23.get 0 rfl).lt
    have F23 : Hid (Fr w _ [(w.heap.size + 1, 26, #[.int .i64 b.brk, .int .i64 b.drag, .int .i64 b.drv]), (w.heap.size, 24, #[.string s, .slice A ps.length c])]) := Lib.hid G23
    clear hb23 G23 F22
    go_upto_region 7 with fail
    refine wp_abs ?_
    intro wq hq9
    have FQ : Hid (Fr w wq [(w23.heap.size, 49, #[.int .i64 0, .int .i64 0]), (w.heap.size + 1, 26, #[.int .i64 b.brk, .int .i64 b.drag, .int .i64 b.drv]), (w.heap.size, 24, #[.string s, .slice A ps.length c])]) := Lib.hid (by subst hq9; exact F23.out.box 49 #[.int .i64 0, .int .i64 0])
    clear hq9 HL2 HL4 F23 k0_0 k0_1 kf0 kg0 kz0 k1_0 k1_1 k1_2 kz1
    obtain ⟨k0_0, k0_1, kf0, kg0⟩ := (FQ.out.get 2 rfl).two
    have kz0 := (FQ.out.get 2 rfl).lt
    obtain ⟨k1_0, k1_1, k1_2⟩ := (FQ.out.get 1 rfl).three
    have kz1 := (FQ.out.get 1 rfl).lt
    obtain ⟨k2_0, k2_1, kf2, kg2⟩ := (FQ.out.get 0 rfl).two
    have kz2 := (FQ.out.get 0 rfl).lt
    go_wp2_with fail
    refine (TrackErr_any s hs ps A c hl _ (Fr.lies HA.out FQ.out)).mono ?_
    rintro e w24 ⟨rfl, hb24⟩
    rw [HTR.out]
    clear k0_0 k0_1 kf0 kg0 kz0 k1_0 k1_1 k1_2 kz1 k2_0 k2_1 kf2 kg2 kz2
    have G24 := Fr.call FQ.out hb24
    obtain ⟨k0_0, k0_1, kf0, kg0⟩ := (G24.get 2 rfl).two
    have kz0 := (G24.get 2 rfl).lt
    obtain ⟨k1_0, k1_1, k1_2⟩ := (G24.get 1 rfl).three
    have kz1 := (G24.get 1 rfl).lt
    obtain ⟨k2_0, k2_1, kf2, kg2⟩ := (G24.get 0 rfl).two
    have kz2 := (G24.get 0 rfl).lt
    have F24 : Hid (Fr w _ [(w23.heap.size, 49, #[.int .i64 0, .int .i64 0]), (w.heap.size + 1, 26, #[.int .i64 b.brk, .int .i64 b.drag, .int .i64 b.drv]), (w.heap.size, 24, #[.string s, .slice A ps.length c])]) := Lib.hid G24
    clear hb24 G24 FQ
    go_wp2_with fail
    refine (BothErr_any s hs ps A c hl b _ (Fr.lies HA.out F24.out)).mono ?_
    rintro e w25 ⟨rfl, hb25⟩
    rw [HBO.out]
    clear k0_0 k0_1 kf0 kg0 kz0 k1_0 k1_1 k1_2 kz1 k2_0 k2_1 kf2 kg2 kz2
    have G25 := Fr.call F24.out hb25
    obtain ⟨k0_0, k0_1, kf0, kg0⟩ := (G25.get 2 rfl).two
    have kz0 := (G25.get 2 rfl).lt
    obtain ⟨k1_0, k1_1, k1_2⟩ := (G25.get 1 rfl).three
    have kz1 := (G25.get 1 rfl).lt
    obtain ⟨k2_0, k2_1, kf2, kg2⟩ := (G25.get 0 rfl).two
    have kz2 := (G25.get 0 rfl).lt
    have F25 : Hid (Fr w _ [(w23.heap.size, 49, #[.int .i64 0, .int .i64 0]), (w.heap.size + 1, 26, #[.int .i64 b.brk, .int .i64 b.drag, .int .i64 b.drv]), (w.heap.size, 24, #[.string s, .slice A ps.length c])]) := Lib.hid G25
    clear hb25 G25 F24
    go_wp2_with fail
    go_ret
    exact ⟨rfl, (F25.out.new _).bl⟩

set_option maxHeartbeats 8000000 in
set_option maxRecDepth 100000 in
theorem sq_B1 (s : ByteArray) (hs : s.size ≤ maxLen) (ps : List Bp) (A : Option Addr) (c : Nat) (hg : HdOk ⟨A, c⟩) (hl : ps.length ≤ maxLen) (b : Bs) (l : List Int) (B : Option Addr) (d : Nat) (hgr : HdOk ⟨B, d⟩) (hll : l.length ≤ maxLen) (d0 q : Int) (hsh : shortB s ps = true) (h16 : l.length ≤ 16) (hT : (trE s ps).2 = 0) (hO : bothE s ps b = d0) (hS : sqsE ps l = q) (hck : (∀ (A' : Option Addr) (c' : Nat) (B' : Option Addr) (d' : Nat) (W : World), Lies W W.heap.size A' (ps.flatMap pc) → Lies W W.heap.size B' (ic l) → Calls Try.prog 18 #[.agg #[.string s, .slice A' ps.length c'], .agg #[.int .i64 b.brk, .int .i64 b.drag, .int .i64 b.drv], .slice B' l.length d'] W fun e w' => e = .returned (.tuple #[.int .i64 0, .int .i64 d0]) ∧ Below W.heap.size W w')) (htm : (∀ (A' : Option Addr) (c' : Nat) (B' : Option Addr) (d' : Nat) (W : World), Lies W W.heap.size A' (ps.flatMap pc) → Lies W W.heap.size B' (ic l) → Calls Try.prog 20 #[.agg #[.string s, .slice A' ps.length c'], .slice B' l.length d'] W fun e w' => e = .returned (.tuple #[.agg #[.int .i64 0, .int .i64 0], .int .i64 q]) ∧ Below W.heap.size W w'))   (hd : d0 ≠ 0) (hq : q ≠ 0) (w : World) (hA : Lies w w.heap.size A (ps.flatMap pc)) (hB : Lies w w.heap.size B (ic l)) : Calls Try.prog 4 #[.agg #[.string s, .slice A ps.length c], .agg #[.int .i64 b.brk, .int .i64 b.drag, .int .i64 b.drv], .slice B l.length d] w fun e w' => e = .returned (.bool true) ∧ Below w.heap.size w w' := by
  have HSQ : Hid (∀ W, Lies W W.heap.size B (ic l) → Calls Try.prog 22 #[.agg #[.string s, .slice A ps.length c], .slice B l.length d] W fun e w' => e = .returned (.int .i64 q) ∧ Below W.heap.size W w') := Lib.hid (fun W h => by have := SquaresErr_any s ps A c (by have := (short_iff.1 hsh).2; omega) l B d hll W h; rw [hS] at this; exact this)
  have HCI : Hid (∀ W : World, Lies W W.heap.size B (ic l) → Calls Try.prog 19 #[.slice B l.length d] W fun e w' => ∃ g : Hd, e = .returned (.slice g.A l.length g.c) ∧ Lies w' w'.heap.size g.A (ic l) ∧ HdOk g ∧ (∀ a, g.A = some a → W.heap.size ≤ a.block) ∧ Below W.heap.size W w') := Lib.hid (fun W h => CopyInts_any l ⟨B, d⟩ (by omega) hgr W h)
  obtain ⟨NR, hNR⟩ : ∃ n, l.length = n := ⟨_, rfl⟩
  have HNR := Lib.hid hNR
  rw [hNR] at HSQ HCI h16 hck htm ⊢
  have HCK := Lib.hid hck
  have HTM := Lib.hid htm
  have HTR := Lib.hid hT
  have HBO := Lib.hid hO
  have h16i : ¬ (16 : Int) < (NR : Int) := by omega
  clear hNR hT hO hS hck htm
  have b1d0 : (d0 == 0) = false := by simp [hd]
  have b2d0 : (d0 != 0) = true := by simp [hd]
  have b1q : (q == 0) = false := by simp [hq]
  have b2q : (q != 0) = true := by simp [hq]
  have F0 := Lib.hid (Fr.b2 w 24 #[.string s, .slice A ps.length c] 26 #[.int .i64 b.brk, .int .i64 b.drag, .int .i64 b.drv])
  have HA := Lib.hid hA
  have HG := Lib.hid hg
  have HLR := Lib.hid hB
  have HGR := Lib.hid hgr
  clear hA hg hB hgr
  have HSH := Lib.hid hsh
  have hl14 : ps.length ≤ 14 := (short_iff.1 hsh).2
  clear hsh
  clear hll
  go_enter Try.func4, Try.ntmps4
  go_wp2_with fail
  refine (awake_any _).mono ?_
  rintro e w1 ⟨rfl, hb1⟩
  have G1 := Fr.call F0.out hb1
  obtain ⟨k0_0, k0_1, kf0, kg0⟩ := (G1.get 1 rfl).two
  have kz0 := (G1.get 1 rfl).lt
  obtain ⟨k1_0, k1_1, k1_2⟩ := (G1.get 0 rfl).three
  have kz1 := (G1.get 0 rfl).lt
  have F1 : Hid (Fr w _ [(w.heap.size + 1, 26, #[.int .i64 b.brk, .int .i64 b.drag, .int .i64 b.drv]), (w.heap.size, 24, #[.string s, .slice A ps.length c])]) := Lib.hid G1
  clear hb1 G1 F0
  go_wp2_with fail
  refine (Short_any s hs ps A c hl _).mono ?_
  rintro e w2 ⟨rfl, hb2⟩
  rw [HSH.out]
  clear k0_0 k0_1 kf0 kg0 kz0 k1_0 k1_1 k1_2 kz1
  have G2 := Fr.call F1.out hb2
  obtain ⟨k0_0, k0_1, kf0, kg0⟩ := (G2.get 1 rfl).two
  have kz0 := (G2.get 1 rfl).lt
  obtain ⟨k1_0, k1_1, k1_2⟩ := (G2.get 0 rfl).three
  have kz1 := (G2.get 0 rfl).lt
  have F2 : Hid (Fr w _ [(w.heap.size + 1, 26, #[.int .i64 b.brk, .int .i64 b.drag, .int .i64 b.drv]), (w.heap.size, 24, #[.string s, .slice A ps.length c])]) := Lib.hid G2
  clear hb2 G2 F1
  go_upto_region 5 with fail
  clear k0_0 k0_1 kf0 kg0 kz0 k1_0 k1_1 k1_2 kz1
  go_cut [7, 8] from 25 to 33 (fun r e W => (r = .int .i64 0 ∧ e = .int .i64 d0) ∧ Fr w2 W [])
  case first =>
    have HALL : Hid (∀ W, Fr w2 W [] → Fr w2 W [] ∧ W.cell? ⟨w.heap.size, 0, none⟩ = some (.string s) ∧ W.cell? ⟨w.heap.size, 1, none⟩ = some (.slice A ps.length c) ∧ W.cell? ⟨w.heap.size + 1, 0, none⟩ = some (.int .i64 b.brk) ∧ W.cell? ⟨w.heap.size + 1, 1, none⟩ = some (.int .i64 b.drag) ∧ W.cell? ⟨w.heap.size + 1, 2, none⟩ = some (.int .i64 b.drv)) := Lib.hid (fun W hW => ⟨hW, ((F2.out.get 1 rfl).call hW.bl).cell 0, ((F2.out.get 1 rfl).call hW.bl).cell 1, ((F2.out.get 0 rfl).call hW.bl).cell 0, ((F2.out.get 0 rfl).call hW.bl).cell 1, ((F2.out.get 0 rfl).call hW.bl).cell 2⟩)
    have HAC := Lib.hid (Fr.lies HA.out F2.out); have HRC := Lib.hid (Fr.lies HLR.out F2.out)
    have F10 : Fr w2 _ [] := Fr.nil w2
    go_region_held3 (fun W => Fr w2 W [] ∧ W.cell? ⟨w.heap.size, 0, none⟩ = some (.string s) ∧ W.cell? ⟨w.heap.size, 1, none⟩ = some (.slice A ps.length c) ∧ W.cell? ⟨w.heap.size + 1, 0, none⟩ = some (.int .i64 b.brk) ∧ W.cell? ⟨w.heap.size + 1, 1, none⟩ = some (.int .i64 b.drag) ∧ W.cell? ⟨w.heap.size + 1, 2, none⟩ = some (.int .i64 b.drv))
        ((go_split_ands; refine HALL.out _ ?_; (first | assumption | (repeat (first | assumption | refine Fr.new ?_ _ | refine Fr.drew ?_ | (refine Fr.set ?_ (by first | exact Nat.le_refl _ | omega | (simp; done) | (simp; omega)) (by first | (simp; done) | (simp; omega)) _))); done)))
        ((first
          | (go_at_call 10; go_split_ands; (with_reducible refine (Copy_any s ps ⟨A, c⟩ (by omega) HG.out _ (Fr.lies HAC.out (by assumption))).mono ?_); rintro e w1 ⟨g2, rfl, hl2, hk2, hb1⟩; have HL2 := Lib.hid hl2; have F4 := Fr.call (by assumption) hb1; clear hb1 hl2 hk2)
          | (go_at_call 19; go_split_ands; (with_reducible refine (HCI.out _ (Fr.lies HRC.out (by assumption))).mono ?_); rintro e w1 ⟨g4, rfl, hl4, hk4, _, hb1⟩; have HL4 := Lib.hid hl4; have F6 := Fr.call (by assumption) hb1; have HL2 := Lib.hid (Lies.call HL2.out hb1); clear hb1 hl4 hk4)
          | (go_at_call 18; go_split_ands; (with_reducible refine (HCK.out _ _ _ _ _ HL2.out HL4.out).mono ?_); rintro e w1 ⟨rfl, hb1⟩; have F5 := Fr.call (by assumption) hb1; clear hb1)
          | fail "arm"))
    all_goals
      go_split_ands
      go_wp2_with fail
      go_meet
      exact ⟨⟨rfl, rfl⟩, by assumption⟩
  case rest =>
    obtain ⟨wx2, rfl⟩ : ∃ W, W = wc := ⟨_, rfl⟩
    obtain ⟨⟨rfl, rfl⟩, hx⟩ := hcut
    have FC2 := Lib.hid (F2.out.call hx.bl)
    clear hx F2
    obtain ⟨k0_0, k0_1, kf0, kg0⟩ := (FC2.out.get 1 rfl).two
    have kz0 := (FC2.out.get 1 rfl).lt
    obtain ⟨k1_0, k1_1, k1_2⟩ := (FC2.out.get 0 rfl).three
    have kz1 := (FC2.out.get 0 rfl).lt
    go_wp2_with fail
    refine (Copy_any s ps ⟨A, c⟩ (by omega) HG.out _ (Fr.lies HA.out FC2.out)).mono ?_
    rintro e w21 ⟨g9, rfl, hl9, hk9, hb21⟩
    clear k0_0 k0_1 kf0 kg0 kz0 k1_0 k1_1 k1_2 kz1
    have G21 := Fr.call FC2.out hb21
    have HL2 := Lib.hid hl9
    obtain ⟨k0_0, k0_1, kf0, kg0⟩ := (G21.get 1 rfl).two
    have kz0 := (G21.get 1 rfl).lt
    obtain ⟨k1_0, k1_1, k1_2⟩ := (G21.get 0 rfl).three
    have kz1 := (G21.get 0 rfl).lt
    have F21 : Hid (Fr w _ [(w.heap.size + 1, 26, #[.int .i64 b.brk, .int .i64 b.drag, .int .i64 b.drv]), (w.heap.size, 24, #[.string s, .slice A ps.length c])]) := Lib.hid G21
    clear hb21 G21 FC2
    clear hl9 hk9
    go_wp2_with fail
    refine (HCI.out _ (Fr.lies HLR.out F21.out)).mono ?_
    rintro e w22 ⟨g10, rfl, hl10, hk10, _, hb22⟩
    clear k0_0 k0_1 kf0 kg0 kz0 k1_0 k1_1 k1_2 kz1
    have G22 := Fr.call F21.out hb22
    have HL4 := Lib.hid hl10
    have HL2 := Lib.hid (Lies.call HL2.out hb22)
    obtain ⟨k0_0, k0_1, kf0, kg0⟩ := (G22.get 1 rfl).two
    have kz0 := (G22.get 1 rfl).lt
    obtain ⟨k1_0, k1_1, k1_2⟩ := (G22.get 0 rfl).three
    have kz1 := (G22.get 0 rfl).lt
    have F22 : Hid (Fr w _ [(w.heap.size + 1, 26, #[.int .i64 b.brk, .int .i64 b.drag, .int .i64 b.drv]), (w.heap.size, 24, #[.string s, .slice A ps.length c])]) := Lib.hid G22
    clear hb22 G22 F21
    clear hl10 hk10
    go_wp2_with fail
    refine (HTM.out _ _ _ _ _ HL2.out HL4.out).mono ?_
    rintro e w23 ⟨rfl, hb23⟩
    clear k0_0 k0_1 kf0 kg0 kz0 k1_0 k1_1 k1_2 kz1
    have G23 := Fr.call F22.out hb23
    obtain ⟨k0_0, k0_1, kf0, kg0⟩ := (G23.get 1 rfl).two
    have kz0 := (G23.get 1 rfl).lt
    obtain ⟨k1_0, k1_1, k1_2⟩ := (G23.get 0 rfl).three
    have kz1 := (G23.get 0 rfl).lt
    have F23 : Hid (Fr w _ [(w.heap.size + 1, 26, #[.int .i64 b.brk, .int .i64 b.drag, .int .i64 b.drv]), (w.heap.size, 24, #[.string s, .slice A ps.length c])]) := Lib.hid G23
    clear hb23 G23 F22
    go_upto_region 7 with fail
    refine wp_abs ?_
    intro wq hq9
    have FQ : Hid (Fr w wq [(w23.heap.size, 49, #[.int .i64 0, .int .i64 0]), (w.heap.size + 1, 26, #[.int .i64 b.brk, .int .i64 b.drag, .int .i64 b.drv]), (w.heap.size, 24, #[.string s, .slice A ps.length c])]) := Lib.hid (by subst hq9; exact F23.out.box 49 #[.int .i64 0, .int .i64 0])
    clear hq9 HL2 HL4 F23 k0_0 k0_1 kf0 kg0 kz0 k1_0 k1_1 k1_2 kz1
    obtain ⟨k0_0, k0_1, kf0, kg0⟩ := (FQ.out.get 2 rfl).two
    have kz0 := (FQ.out.get 2 rfl).lt
    obtain ⟨k1_0, k1_1, k1_2⟩ := (FQ.out.get 1 rfl).three
    have kz1 := (FQ.out.get 1 rfl).lt
    obtain ⟨k2_0, k2_1, kf2, kg2⟩ := (FQ.out.get 0 rfl).two
    have kz2 := (FQ.out.get 0 rfl).lt
    go_wp2_with fail
    refine (TrackErr_any s hs ps A c hl _ (Fr.lies HA.out FQ.out)).mono ?_
    rintro e w24 ⟨rfl, hb24⟩
    rw [HTR.out]
    clear k0_0 k0_1 kf0 kg0 kz0 k1_0 k1_1 k1_2 kz1 k2_0 k2_1 kf2 kg2 kz2
    have G24 := Fr.call FQ.out hb24
    obtain ⟨k0_0, k0_1, kf0, kg0⟩ := (G24.get 2 rfl).two
    have kz0 := (G24.get 2 rfl).lt
    obtain ⟨k1_0, k1_1, k1_2⟩ := (G24.get 1 rfl).three
    have kz1 := (G24.get 1 rfl).lt
    obtain ⟨k2_0, k2_1, kf2, kg2⟩ := (G24.get 0 rfl).two
    have kz2 := (G24.get 0 rfl).lt
    have F24 : Hid (Fr w _ [(w23.heap.size, 49, #[.int .i64 0, .int .i64 0]), (w.heap.size + 1, 26, #[.int .i64 b.brk, .int .i64 b.drag, .int .i64 b.drv]), (w.heap.size, 24, #[.string s, .slice A ps.length c])]) := Lib.hid G24
    clear hb24 G24 FQ
    go_wp2_with fail
    refine (BothErr_any s hs ps A c hl b _ (Fr.lies HA.out F24.out)).mono ?_
    rintro e w25 ⟨rfl, hb25⟩
    rw [HBO.out]
    clear k0_0 k0_1 kf0 kg0 kz0 k1_0 k1_1 k1_2 kz1 k2_0 k2_1 kf2 kg2 kz2
    have G25 := Fr.call F24.out hb25
    obtain ⟨k0_0, k0_1, kf0, kg0⟩ := (G25.get 2 rfl).two
    have kz0 := (G25.get 2 rfl).lt
    obtain ⟨k1_0, k1_1, k1_2⟩ := (G25.get 1 rfl).three
    have kz1 := (G25.get 1 rfl).lt
    obtain ⟨k2_0, k2_1, kf2, kg2⟩ := (G25.get 0 rfl).two
    have kz2 := (G25.get 0 rfl).lt
    have F25 : Hid (Fr w _ [(w23.heap.size, 49, #[.int .i64 0, .int .i64 0]), (w.heap.size + 1, 26, #[.int .i64 b.brk, .int .i64 b.drag, .int .i64 b.drv]), (w.heap.size, 24, #[.string s, .slice A ps.length c])]) := Lib.hid G25
    clear hb25 G25 F24
    go_wp2_with fail
    refine (HSQ.out _ (Fr.lies HLR.out F25.out)).mono ?_
    rintro e w26 ⟨rfl, hb26⟩
    clear k0_0 k0_1 kf0 kg0 kz0 k1_0 k1_1 k1_2 kz1 k2_0 k2_1 kf2 kg2 kz2
    have G26 := Fr.call F25.out hb26
    obtain ⟨k0_0, k0_1, kf0, kg0⟩ := (G26.get 2 rfl).two
    have kz0 := (G26.get 2 rfl).lt
    obtain ⟨k1_0, k1_1, k1_2⟩ := (G26.get 1 rfl).three
    have kz1 := (G26.get 1 rfl).lt
    obtain ⟨k2_0, k2_1, kf2, kg2⟩ := (G26.get 0 rfl).two
    have kz2 := (G26.get 0 rfl).lt
    have F26 : Hid (Fr w _ [(w23.heap.size, 49, #[.int .i64 0, .int .i64 0]), (w.heap.size + 1, 26, #[.int .i64 b.brk, .int .i64 b.drag, .int .i64 b.drv]), (w.heap.size, 24, #[.string s, .slice A ps.length c])]) := Lib.hid G26
    clear hb26 G26 F25
    go_wp2_with fail
    go_ret
    exact ⟨rfl, (F26.out.new _).bl⟩

set_option maxHeartbeats 8000000 in
set_option maxRecDepth 100000 in
theorem sq_B2 (s : ByteArray) (hs : s.size ≤ maxLen) (ps : List Bp) (A : Option Addr) (c : Nat) (hg : HdOk ⟨A, c⟩) (hl : ps.length ≤ maxLen) (b : Bs) (l : List Int) (B : Option Addr) (d : Nat) (hgr : HdOk ⟨B, d⟩) (hll : l.length ≤ maxLen) (d0 er hi lo : Int) (hsh : shortB s ps = true) (h16 : l.length ≤ 16) (hT : (trE s ps).2 = 0) (hO : bothE s ps b = d0) (hS : sqsE ps l = 0) (hck : (∀ (A' : Option Addr) (c' : Nat) (B' : Option Addr) (d' : Nat) (W : World), Lies W W.heap.size A' (ps.flatMap pc) → Lies W W.heap.size B' (ic l) → Calls Try.prog 18 #[.agg #[.string s, .slice A' ps.length c'], .agg #[.int .i64 b.brk, .int .i64 b.drag, .int .i64 b.drv], .slice B' l.length d'] W fun e w' => e = .returned (.tuple #[.int .i64 0, .int .i64 d0]) ∧ Below W.heap.size W w')) (htm : (∀ (A' : Option Addr) (c' : Nat) (B' : Option Addr) (d' : Nat) (W : World), Lies W W.heap.size A' (ps.flatMap pc) → Lies W W.heap.size B' (ic l) → Calls Try.prog 20 #[.agg #[.string s, .slice A' ps.length c'], .slice B' l.length d'] W fun e w' => e = .returned (.tuple #[.agg #[.int .i64 lo, .int .i64 hi], .int .i64 er]) ∧ Below W.heap.size W w'))  (htm2 : (∀ (A' : Option Addr) (c' : Nat) (B' : Option Addr) (d' : Nat) (W : World), Lies W W.heap.size A' (ps.flatMap pc) → Lies W W.heap.size B' (ic l) → Calls Try.prog 24 #[.agg #[.string s, .slice A' ps.length c'], .slice B' l.length d'] W fun e w' => e = .returned (.tuple #[.agg #[.int .i64 lo, .int .i64 hi], .int .i64 er]) ∧ Below W.heap.size W w')) (hd : d0 ≠ 0) (w : World) (hA : Lies w w.heap.size A (ps.flatMap pc)) (hB : Lies w w.heap.size B (ic l)) : Calls Try.prog 4 #[.agg #[.string s, .slice A ps.length c], .agg #[.int .i64 b.brk, .int .i64 b.drag, .int .i64 b.drv], .slice B l.length d] w fun e w' => e = .returned (.bool true) ∧ Below w.heap.size w w' := by
  have HSQ : Hid (∀ W, Lies W W.heap.size B (ic l) → Calls Try.prog 22 #[.agg #[.string s, .slice A ps.length c], .slice B l.length d] W fun e w' => e = .returned (.int .i64 0) ∧ Below W.heap.size W w') := Lib.hid (fun W h => by have := SquaresErr_any s ps A c (by have := (short_iff.1 hsh).2; omega) l B d hll W h; rw [hS] at this; exact this)
  have HCI : Hid (∀ W : World, Lies W W.heap.size B (ic l) → Calls Try.prog 19 #[.slice B l.length d] W fun e w' => ∃ g : Hd, e = .returned (.slice g.A l.length g.c) ∧ Lies w' w'.heap.size g.A (ic l) ∧ HdOk g ∧ (∀ a, g.A = some a → W.heap.size ≤ a.block) ∧ Below W.heap.size W w') := Lib.hid (fun W h => CopyInts_any l ⟨B, d⟩ (by omega) hgr W h)
  obtain ⟨NR, hNR⟩ : ∃ n, l.length = n := ⟨_, rfl⟩
  have HNR := Lib.hid hNR
  rw [hNR] at HSQ HCI h16 hck htm htm2 ⊢
  have HCK := Lib.hid hck
  have HTM := Lib.hid htm
  have HTM2 := Lib.hid htm2
  have HTR := Lib.hid hT
  have HBO := Lib.hid hO
  have h16i : ¬ (16 : Int) < (NR : Int) := by omega
  clear hNR hT hO hS hck htm htm2
  have b1d0 : (d0 == 0) = false := by simp [hd]
  have b2d0 : (d0 != 0) = true := by simp [hd]
  have F0 := Lib.hid (Fr.b2 w 24 #[.string s, .slice A ps.length c] 26 #[.int .i64 b.brk, .int .i64 b.drag, .int .i64 b.drv])
  have HA := Lib.hid hA
  have HG := Lib.hid hg
  have HLR := Lib.hid hB
  have HGR := Lib.hid hgr
  clear hA hg hB hgr
  have HSH := Lib.hid hsh
  have hl14 : ps.length ≤ 14 := (short_iff.1 hsh).2
  clear hsh
  clear hll
  go_enter Try.func4, Try.ntmps4
  go_wp2_with fail
  refine (awake_any _).mono ?_
  rintro e w1 ⟨rfl, hb1⟩
  have G1 := Fr.call F0.out hb1
  obtain ⟨k0_0, k0_1, kf0, kg0⟩ := (G1.get 1 rfl).two
  have kz0 := (G1.get 1 rfl).lt
  obtain ⟨k1_0, k1_1, k1_2⟩ := (G1.get 0 rfl).three
  have kz1 := (G1.get 0 rfl).lt
  have F1 : Hid (Fr w _ [(w.heap.size + 1, 26, #[.int .i64 b.brk, .int .i64 b.drag, .int .i64 b.drv]), (w.heap.size, 24, #[.string s, .slice A ps.length c])]) := Lib.hid G1
  clear hb1 G1 F0
  go_wp2_with fail
  refine (Short_any s hs ps A c hl _).mono ?_
  rintro e w2 ⟨rfl, hb2⟩
  rw [HSH.out]
  clear k0_0 k0_1 kf0 kg0 kz0 k1_0 k1_1 k1_2 kz1
  have G2 := Fr.call F1.out hb2
  obtain ⟨k0_0, k0_1, kf0, kg0⟩ := (G2.get 1 rfl).two
  have kz0 := (G2.get 1 rfl).lt
  obtain ⟨k1_0, k1_1, k1_2⟩ := (G2.get 0 rfl).three
  have kz1 := (G2.get 0 rfl).lt
  have F2 : Hid (Fr w _ [(w.heap.size + 1, 26, #[.int .i64 b.brk, .int .i64 b.drag, .int .i64 b.drv]), (w.heap.size, 24, #[.string s, .slice A ps.length c])]) := Lib.hid G2
  clear hb2 G2 F1
  go_upto_region 5 with fail
  clear k0_0 k0_1 kf0 kg0 kz0 k1_0 k1_1 k1_2 kz1
  go_cut [7, 8] from 25 to 33 (fun r e W => (r = .int .i64 0 ∧ e = .int .i64 d0) ∧ Fr w2 W [])
  case first =>
    have HALL : Hid (∀ W, Fr w2 W [] → Fr w2 W [] ∧ W.cell? ⟨w.heap.size, 0, none⟩ = some (.string s) ∧ W.cell? ⟨w.heap.size, 1, none⟩ = some (.slice A ps.length c) ∧ W.cell? ⟨w.heap.size + 1, 0, none⟩ = some (.int .i64 b.brk) ∧ W.cell? ⟨w.heap.size + 1, 1, none⟩ = some (.int .i64 b.drag) ∧ W.cell? ⟨w.heap.size + 1, 2, none⟩ = some (.int .i64 b.drv)) := Lib.hid (fun W hW => ⟨hW, ((F2.out.get 1 rfl).call hW.bl).cell 0, ((F2.out.get 1 rfl).call hW.bl).cell 1, ((F2.out.get 0 rfl).call hW.bl).cell 0, ((F2.out.get 0 rfl).call hW.bl).cell 1, ((F2.out.get 0 rfl).call hW.bl).cell 2⟩)
    have HAC := Lib.hid (Fr.lies HA.out F2.out); have HRC := Lib.hid (Fr.lies HLR.out F2.out)
    have F10 : Fr w2 _ [] := Fr.nil w2
    go_region_held3 (fun W => Fr w2 W [] ∧ W.cell? ⟨w.heap.size, 0, none⟩ = some (.string s) ∧ W.cell? ⟨w.heap.size, 1, none⟩ = some (.slice A ps.length c) ∧ W.cell? ⟨w.heap.size + 1, 0, none⟩ = some (.int .i64 b.brk) ∧ W.cell? ⟨w.heap.size + 1, 1, none⟩ = some (.int .i64 b.drag) ∧ W.cell? ⟨w.heap.size + 1, 2, none⟩ = some (.int .i64 b.drv))
        ((go_split_ands; refine HALL.out _ ?_; (first | assumption | (repeat (first | assumption | refine Fr.new ?_ _ | refine Fr.drew ?_ | (refine Fr.set ?_ (by first | exact Nat.le_refl _ | omega | (simp; done) | (simp; omega)) (by first | (simp; done) | (simp; omega)) _))); done)))
        ((first
          | (go_at_call 10; go_split_ands; (with_reducible refine (Copy_any s ps ⟨A, c⟩ (by omega) HG.out _ (Fr.lies HAC.out (by assumption))).mono ?_); rintro e w1 ⟨g2, rfl, hl2, hk2, hb1⟩; have HL2 := Lib.hid hl2; have F4 := Fr.call (by assumption) hb1; clear hb1 hl2 hk2)
          | (go_at_call 19; go_split_ands; (with_reducible refine (HCI.out _ (Fr.lies HRC.out (by assumption))).mono ?_); rintro e w1 ⟨g4, rfl, hl4, hk4, _, hb1⟩; have HL4 := Lib.hid hl4; have F6 := Fr.call (by assumption) hb1; have HL2 := Lib.hid (Lies.call HL2.out hb1); clear hb1 hl4 hk4)
          | (go_at_call 18; go_split_ands; (with_reducible refine (HCK.out _ _ _ _ _ HL2.out HL4.out).mono ?_); rintro e w1 ⟨rfl, hb1⟩; have F5 := Fr.call (by assumption) hb1; clear hb1)
          | fail "arm"))
    all_goals
      go_split_ands
      go_wp2_with fail
      go_meet
      exact ⟨⟨rfl, rfl⟩, by assumption⟩
  case rest =>
    obtain ⟨wx3, rfl⟩ : ∃ W, W = wc := ⟨_, rfl⟩
    obtain ⟨⟨rfl, rfl⟩, hx⟩ := hcut
    have FC3 := Lib.hid (F2.out.call hx.bl)
    clear hx F2
    obtain ⟨k0_0, k0_1, kf0, kg0⟩ := (FC3.out.get 1 rfl).two
    have kz0 := (FC3.out.get 1 rfl).lt
    obtain ⟨k1_0, k1_1, k1_2⟩ := (FC3.out.get 0 rfl).three
    have kz1 := (FC3.out.get 0 rfl).lt
    go_wp2_with fail
    refine (Copy_any s ps ⟨A, c⟩ (by omega) HG.out _ (Fr.lies HA.out FC3.out)).mono ?_
    rintro e w21 ⟨g9, rfl, hl9, hk9, hb21⟩
    clear k0_0 k0_1 kf0 kg0 kz0 k1_0 k1_1 k1_2 kz1
    have G21 := Fr.call FC3.out hb21
    have HL2 := Lib.hid hl9
    obtain ⟨k0_0, k0_1, kf0, kg0⟩ := (G21.get 1 rfl).two
    have kz0 := (G21.get 1 rfl).lt
    obtain ⟨k1_0, k1_1, k1_2⟩ := (G21.get 0 rfl).three
    have kz1 := (G21.get 0 rfl).lt
    have F21 : Hid (Fr w _ [(w.heap.size + 1, 26, #[.int .i64 b.brk, .int .i64 b.drag, .int .i64 b.drv]), (w.heap.size, 24, #[.string s, .slice A ps.length c])]) := Lib.hid G21
    clear hb21 G21 FC3
    clear hl9 hk9
    go_wp2_with fail
    refine (HCI.out _ (Fr.lies HLR.out F21.out)).mono ?_
    rintro e w22 ⟨g10, rfl, hl10, hk10, _, hb22⟩
    clear k0_0 k0_1 kf0 kg0 kz0 k1_0 k1_1 k1_2 kz1
    have G22 := Fr.call F21.out hb22
    have HL4 := Lib.hid hl10
    have HL2 := Lib.hid (Lies.call HL2.out hb22)
    obtain ⟨k0_0, k0_1, kf0, kg0⟩ := (G22.get 1 rfl).two
    have kz0 := (G22.get 1 rfl).lt
    obtain ⟨k1_0, k1_1, k1_2⟩ := (G22.get 0 rfl).three
    have kz1 := (G22.get 0 rfl).lt
    have F22 : Hid (Fr w _ [(w.heap.size + 1, 26, #[.int .i64 b.brk, .int .i64 b.drag, .int .i64 b.drv]), (w.heap.size, 24, #[.string s, .slice A ps.length c])]) := Lib.hid G22
    clear hb22 G22 F21
    clear hl10 hk10
    go_wp2_with fail
    refine (HTM.out _ _ _ _ _ HL2.out HL4.out).mono ?_
    rintro e w23 ⟨rfl, hb23⟩
    clear k0_0 k0_1 kf0 kg0 kz0 k1_0 k1_1 k1_2 kz1
    have G23 := Fr.call F22.out hb23
    obtain ⟨k0_0, k0_1, kf0, kg0⟩ := (G23.get 1 rfl).two
    have kz0 := (G23.get 1 rfl).lt
    obtain ⟨k1_0, k1_1, k1_2⟩ := (G23.get 0 rfl).three
    have kz1 := (G23.get 0 rfl).lt
    have F23 : Hid (Fr w _ [(w.heap.size + 1, 26, #[.int .i64 b.brk, .int .i64 b.drag, .int .i64 b.drv]), (w.heap.size, 24, #[.string s, .slice A ps.length c])]) := Lib.hid G23
    clear hb23 G23 F22
    go_upto_region 7 with fail
    refine wp_abs ?_
    intro wq hq9
    have FQ : Hid (Fr w wq [(w23.heap.size, 49, #[.int .i64 lo, .int .i64 hi]), (w.heap.size + 1, 26, #[.int .i64 b.brk, .int .i64 b.drag, .int .i64 b.drv]), (w.heap.size, 24, #[.string s, .slice A ps.length c])]) := Lib.hid (by subst hq9; exact F23.out.box 49 #[.int .i64 lo, .int .i64 hi])
    clear hq9 HL2 HL4 F23 k0_0 k0_1 kf0 kg0 kz0 k1_0 k1_1 k1_2 kz1
    obtain ⟨k0_0, k0_1, kf0, kg0⟩ := (FQ.out.get 2 rfl).two
    have kz0 := (FQ.out.get 2 rfl).lt
    obtain ⟨k1_0, k1_1, k1_2⟩ := (FQ.out.get 1 rfl).three
    have kz1 := (FQ.out.get 1 rfl).lt
    obtain ⟨k2_0, k2_1, kf2, kg2⟩ := (FQ.out.get 0 rfl).two
    have kz2 := (FQ.out.get 0 rfl).lt
    go_wp2_with fail
    refine (TrackErr_any s hs ps A c hl _ (Fr.lies HA.out FQ.out)).mono ?_
    rintro e w24 ⟨rfl, hb24⟩
    rw [HTR.out]
    clear k0_0 k0_1 kf0 kg0 kz0 k1_0 k1_1 k1_2 kz1 k2_0 k2_1 kf2 kg2 kz2
    have G24 := Fr.call FQ.out hb24
    obtain ⟨k0_0, k0_1, kf0, kg0⟩ := (G24.get 2 rfl).two
    have kz0 := (G24.get 2 rfl).lt
    obtain ⟨k1_0, k1_1, k1_2⟩ := (G24.get 1 rfl).three
    have kz1 := (G24.get 1 rfl).lt
    obtain ⟨k2_0, k2_1, kf2, kg2⟩ := (G24.get 0 rfl).two
    have kz2 := (G24.get 0 rfl).lt
    have F24 : Hid (Fr w _ [(w23.heap.size, 49, #[.int .i64 lo, .int .i64 hi]), (w.heap.size + 1, 26, #[.int .i64 b.brk, .int .i64 b.drag, .int .i64 b.drv]), (w.heap.size, 24, #[.string s, .slice A ps.length c])]) := Lib.hid G24
    clear hb24 G24 FQ
    go_wp2_with fail
    refine (BothErr_any s hs ps A c hl b _ (Fr.lies HA.out F24.out)).mono ?_
    rintro e w25 ⟨rfl, hb25⟩
    rw [HBO.out]
    clear k0_0 k0_1 kf0 kg0 kz0 k1_0 k1_1 k1_2 kz1 k2_0 k2_1 kf2 kg2 kz2
    have G25 := Fr.call F24.out hb25
    obtain ⟨k0_0, k0_1, kf0, kg0⟩ := (G25.get 2 rfl).two
    have kz0 := (G25.get 2 rfl).lt
    obtain ⟨k1_0, k1_1, k1_2⟩ := (G25.get 1 rfl).three
    have kz1 := (G25.get 1 rfl).lt
    obtain ⟨k2_0, k2_1, kf2, kg2⟩ := (G25.get 0 rfl).two
    have kz2 := (G25.get 0 rfl).lt
    have F25 : Hid (Fr w _ [(w23.heap.size, 49, #[.int .i64 lo, .int .i64 hi]), (w.heap.size + 1, 26, #[.int .i64 b.brk, .int .i64 b.drag, .int .i64 b.drv]), (w.heap.size, 24, #[.string s, .slice A ps.length c])]) := Lib.hid G25
    clear hb25 G25 F24
    go_wp2_with fail
    refine (HSQ.out _ (Fr.lies HLR.out F25.out)).mono ?_
    rintro e w26 ⟨rfl, hb26⟩
    clear k0_0 k0_1 kf0 kg0 kz0 k1_0 k1_1 k1_2 kz1 k2_0 k2_1 kf2 kg2 kz2
    have G26 := Fr.call F25.out hb26
    have HZG := Lib.hid (show w.heap.size ≤ w26.heap.size from G26.bl.size)
    have HFAR := Lib.hid G26.bk
    obtain ⟨k0_0, k0_1, kf0, kg0⟩ := (G26.get 2 rfl).two
    have kz0 := (G26.get 2 rfl).lt
    obtain ⟨k1_0, k1_1, k1_2⟩ := (G26.get 1 rfl).three
    have kz1 := (G26.get 1 rfl).lt
    obtain ⟨k2_0, k2_1, kf2, kg2⟩ := (G26.get 0 rfl).two
    have kz2 := (G26.get 0 rfl).lt
    have F26 : Hid (Fr w _ [(w26.heap.size, 49, #[.int .i64 0, .int .i64 0]), (w23.heap.size, 49, #[.int .i64 lo, .int .i64 hi]), (w.heap.size + 1, 26, #[.int .i64 b.brk, .int .i64 b.drag, .int .i64 b.drv]), (w.heap.size, 24, #[.string s, .slice A ps.length c])]) := Lib.hid (Fr.box G26 49 #[.int .i64 0, .int .i64 0])
    clear hb26 G26 F25
    go_wp2_with fail
    refine (HTM2.out _ _ _ _ _ (Fr.lies HA.out F26.out) (Fr.lies HLR.out F26.out)).mono ?_
    rintro e w27 ⟨rfl, hb27⟩
    clear k0_0 k0_1 kf0 kg0 kz0 k1_0 k1_1 k1_2 kz1 k2_0 k2_1 kf2 kg2 kz2
    have G27 := Fr.call F26.out hb27
    obtain ⟨k0_0, k0_1, kf0, kg0⟩ := (G27.get 3 rfl).two
    have kz0 := (G27.get 3 rfl).lt
    obtain ⟨k1_0, k1_1, k1_2⟩ := (G27.get 2 rfl).three
    have kz1 := (G27.get 2 rfl).lt
    obtain ⟨k2_0, k2_1, kf2, kg2⟩ := (G27.get 1 rfl).two
    have kz2 := (G27.get 1 rfl).lt
    obtain ⟨k3_0, k3_1, kf3, kg3⟩ := (G27.get 0 rfl).two
    have kz3 := (G27.get 0 rfl).lt
    have F27 : Hid (Fr w _ [(w26.heap.size, 49, #[.int .i64 0, .int .i64 0]), (w23.heap.size, 49, #[.int .i64 lo, .int .i64 hi]), (w.heap.size + 1, 26, #[.int .i64 b.brk, .int .i64 b.drag, .int .i64 b.drv]), (w.heap.size, 24, #[.string s, .slice A ps.length c])]) := Lib.hid G27
    clear hb27 G27 F26
    go_upto_region 21 with fail
    refine wp_abs ?_
    intro wz hz9
    have FZ : Hid (Fr w wz [(w26.heap.size, 49, #[.int .i64 lo, .int .i64 hi]), (w23.heap.size, 49, #[.int .i64 lo, .int .i64 hi]), (w.heap.size + 1, 26, #[.int .i64 b.brk, .int .i64 b.drag, .int .i64 b.drv]), (w.heap.size, 24, #[.string s, .slice A ps.length c])]) := Lib.hid (by subst hz9; exact F27.out.put2a HZG.out (fun b' hb' => Nat.ne_of_lt (HFAR.out b' hb').lt) _ _)
    clear hz9 F27 k0_0 k0_1 kf0 kg0 kz0 k1_0 k1_1 k1_2 kz1 k2_0 k2_1 kf2 kg2 kz2 k3_0 k3_1 kf3 kg3 kz3
    obtain ⟨k0_0, k0_1, kf0, kg0⟩ := (FZ.out.get 3 rfl).two
    have kz0 := (FZ.out.get 3 rfl).lt
    obtain ⟨k1_0, k1_1, k1_2⟩ := (FZ.out.get 2 rfl).three
    have kz1 := (FZ.out.get 2 rfl).lt
    obtain ⟨k2_0, k2_1, kf2, kg2⟩ := (FZ.out.get 1 rfl).two
    have kz2 := (FZ.out.get 1 rfl).lt
    obtain ⟨k3_0, k3_1, kf3, kg3⟩ := (FZ.out.get 0 rfl).two
    have kz3 := (FZ.out.get 0 rfl).lt
    go_wp2_with fail
    go_ret
    exact ⟨rfl, FZ.out.bl⟩

set_option maxHeartbeats 8000000 in
set_option maxRecDepth 100000 in
theorem sq_C1 (s : ByteArray) (hs : s.size ≤ maxLen) (ps : List Bp) (A : Option Addr) (c : Nat) (hg : HdOk ⟨A, c⟩) (hl : ps.length ≤ maxLen) (b : Bs) (l : List Int) (B : Option Addr) (d : Nat) (hgr : HdOk ⟨B, d⟩) (hll : l.length ≤ maxLen) (q : Int) (hsh : shortB s ps = true) (h16 : l.length ≤ 16) (hT : (trE s ps).2 = 0) (hO : bothE s ps b = 0) (hS : sqsE ps l = q) (hck : (∀ (A' : Option Addr) (c' : Nat) (B' : Option Addr) (d' : Nat) (W : World), Lies W W.heap.size A' (ps.flatMap pc) → Lies W W.heap.size B' (ic l) → Calls Try.prog 18 #[.agg #[.string s, .slice A' ps.length c'], .agg #[.int .i64 b.brk, .int .i64 b.drag, .int .i64 b.drv], .slice B' l.length d'] W fun e w' => e = .returned (.tuple #[.int .i64 0, .int .i64 q]) ∧ Below W.heap.size W w')) (htm : (∀ (A' : Option Addr) (c' : Nat) (B' : Option Addr) (d' : Nat) (W : World), Lies W W.heap.size A' (ps.flatMap pc) → Lies W W.heap.size B' (ic l) → Calls Try.prog 20 #[.agg #[.string s, .slice A' ps.length c'], .slice B' l.length d'] W fun e w' => e = .returned (.tuple #[.agg #[.int .i64 0, .int .i64 0], .int .i64 q]) ∧ Below W.heap.size W w'))   (hq : q ≠ 0) (w : World) (hA : Lies w w.heap.size A (ps.flatMap pc)) (hB : Lies w w.heap.size B (ic l)) : Calls Try.prog 4 #[.agg #[.string s, .slice A ps.length c], .agg #[.int .i64 b.brk, .int .i64 b.drag, .int .i64 b.drv], .slice B l.length d] w fun e w' => e = .returned (.bool true) ∧ Below w.heap.size w w' := by
  have HSQ : Hid (∀ W, Lies W W.heap.size B (ic l) → Calls Try.prog 22 #[.agg #[.string s, .slice A ps.length c], .slice B l.length d] W fun e w' => e = .returned (.int .i64 q) ∧ Below W.heap.size W w') := Lib.hid (fun W h => by have := SquaresErr_any s ps A c (by have := (short_iff.1 hsh).2; omega) l B d hll W h; rw [hS] at this; exact this)
  have HCI : Hid (∀ W : World, Lies W W.heap.size B (ic l) → Calls Try.prog 19 #[.slice B l.length d] W fun e w' => ∃ g : Hd, e = .returned (.slice g.A l.length g.c) ∧ Lies w' w'.heap.size g.A (ic l) ∧ HdOk g ∧ (∀ a, g.A = some a → W.heap.size ≤ a.block) ∧ Below W.heap.size W w') := Lib.hid (fun W h => CopyInts_any l ⟨B, d⟩ (by omega) hgr W h)
  obtain ⟨NR, hNR⟩ : ∃ n, l.length = n := ⟨_, rfl⟩
  have HNR := Lib.hid hNR
  rw [hNR] at HSQ HCI h16 hck htm ⊢
  have HCK := Lib.hid hck
  have HTM := Lib.hid htm
  have HTR := Lib.hid hT
  have HBO := Lib.hid hO
  have h16i : ¬ (16 : Int) < (NR : Int) := by omega
  clear hNR hT hO hS hck htm
  have b1q : (q == 0) = false := by simp [hq]
  have b2q : (q != 0) = true := by simp [hq]
  have F0 := Lib.hid (Fr.b2 w 24 #[.string s, .slice A ps.length c] 26 #[.int .i64 b.brk, .int .i64 b.drag, .int .i64 b.drv])
  have HA := Lib.hid hA
  have HG := Lib.hid hg
  have HLR := Lib.hid hB
  have HGR := Lib.hid hgr
  clear hA hg hB hgr
  have HSH := Lib.hid hsh
  have hl14 : ps.length ≤ 14 := (short_iff.1 hsh).2
  clear hsh
  clear hll
  go_enter Try.func4, Try.ntmps4
  go_wp2_with fail
  refine (awake_any _).mono ?_
  rintro e w1 ⟨rfl, hb1⟩
  have G1 := Fr.call F0.out hb1
  obtain ⟨k0_0, k0_1, kf0, kg0⟩ := (G1.get 1 rfl).two
  have kz0 := (G1.get 1 rfl).lt
  obtain ⟨k1_0, k1_1, k1_2⟩ := (G1.get 0 rfl).three
  have kz1 := (G1.get 0 rfl).lt
  have F1 : Hid (Fr w _ [(w.heap.size + 1, 26, #[.int .i64 b.brk, .int .i64 b.drag, .int .i64 b.drv]), (w.heap.size, 24, #[.string s, .slice A ps.length c])]) := Lib.hid G1
  clear hb1 G1 F0
  go_wp2_with fail
  refine (Short_any s hs ps A c hl _).mono ?_
  rintro e w2 ⟨rfl, hb2⟩
  rw [HSH.out]
  clear k0_0 k0_1 kf0 kg0 kz0 k1_0 k1_1 k1_2 kz1
  have G2 := Fr.call F1.out hb2
  obtain ⟨k0_0, k0_1, kf0, kg0⟩ := (G2.get 1 rfl).two
  have kz0 := (G2.get 1 rfl).lt
  obtain ⟨k1_0, k1_1, k1_2⟩ := (G2.get 0 rfl).three
  have kz1 := (G2.get 0 rfl).lt
  have F2 : Hid (Fr w _ [(w.heap.size + 1, 26, #[.int .i64 b.brk, .int .i64 b.drag, .int .i64 b.drv]), (w.heap.size, 24, #[.string s, .slice A ps.length c])]) := Lib.hid G2
  clear hb2 G2 F1
  go_upto_region 5 with fail
  clear k0_0 k0_1 kf0 kg0 kz0 k1_0 k1_1 k1_2 kz1
  go_cut [7, 8] from 25 to 33 (fun r e W => (r = .int .i64 0 ∧ e = .int .i64 q) ∧ Fr w2 W [])
  case first =>
    have HALL : Hid (∀ W, Fr w2 W [] → Fr w2 W [] ∧ W.cell? ⟨w.heap.size, 0, none⟩ = some (.string s) ∧ W.cell? ⟨w.heap.size, 1, none⟩ = some (.slice A ps.length c) ∧ W.cell? ⟨w.heap.size + 1, 0, none⟩ = some (.int .i64 b.brk) ∧ W.cell? ⟨w.heap.size + 1, 1, none⟩ = some (.int .i64 b.drag) ∧ W.cell? ⟨w.heap.size + 1, 2, none⟩ = some (.int .i64 b.drv)) := Lib.hid (fun W hW => ⟨hW, ((F2.out.get 1 rfl).call hW.bl).cell 0, ((F2.out.get 1 rfl).call hW.bl).cell 1, ((F2.out.get 0 rfl).call hW.bl).cell 0, ((F2.out.get 0 rfl).call hW.bl).cell 1, ((F2.out.get 0 rfl).call hW.bl).cell 2⟩)
    have HAC := Lib.hid (Fr.lies HA.out F2.out); have HRC := Lib.hid (Fr.lies HLR.out F2.out)
    have F10 : Fr w2 _ [] := Fr.nil w2
    go_region_held3 (fun W => Fr w2 W [] ∧ W.cell? ⟨w.heap.size, 0, none⟩ = some (.string s) ∧ W.cell? ⟨w.heap.size, 1, none⟩ = some (.slice A ps.length c) ∧ W.cell? ⟨w.heap.size + 1, 0, none⟩ = some (.int .i64 b.brk) ∧ W.cell? ⟨w.heap.size + 1, 1, none⟩ = some (.int .i64 b.drag) ∧ W.cell? ⟨w.heap.size + 1, 2, none⟩ = some (.int .i64 b.drv))
        ((go_split_ands; refine HALL.out _ ?_; (first | assumption | (repeat (first | assumption | refine Fr.new ?_ _ | refine Fr.drew ?_ | (refine Fr.set ?_ (by first | exact Nat.le_refl _ | omega | (simp; done) | (simp; omega)) (by first | (simp; done) | (simp; omega)) _))); done)))
        ((first
          | (go_at_call 10; go_split_ands; (with_reducible refine (Copy_any s ps ⟨A, c⟩ (by omega) HG.out _ (Fr.lies HAC.out (by assumption))).mono ?_); rintro e w1 ⟨g2, rfl, hl2, hk2, hb1⟩; have HL2 := Lib.hid hl2; have F4 := Fr.call (by assumption) hb1; clear hb1 hl2 hk2)
          | (go_at_call 19; go_split_ands; (with_reducible refine (HCI.out _ (Fr.lies HRC.out (by assumption))).mono ?_); rintro e w1 ⟨g4, rfl, hl4, hk4, _, hb1⟩; have HL4 := Lib.hid hl4; have F6 := Fr.call (by assumption) hb1; have HL2 := Lib.hid (Lies.call HL2.out hb1); clear hb1 hl4 hk4)
          | (go_at_call 18; go_split_ands; (with_reducible refine (HCK.out _ _ _ _ _ HL2.out HL4.out).mono ?_); rintro e w1 ⟨rfl, hb1⟩; have F5 := Fr.call (by assumption) hb1; clear hb1)
          | fail "arm"))
    all_goals
      go_split_ands
      go_wp2_with fail
      go_meet
      exact ⟨⟨rfl, rfl⟩, by assumption⟩
  case rest =>
    obtain ⟨wx4, rfl⟩ : ∃ W, W = wc := ⟨_, rfl⟩
    obtain ⟨⟨rfl, rfl⟩, hx⟩ := hcut
    have FC4 := Lib.hid (F2.out.call hx.bl)
    clear hx F2
    obtain ⟨k0_0, k0_1, kf0, kg0⟩ := (FC4.out.get 1 rfl).two
    have kz0 := (FC4.out.get 1 rfl).lt
    obtain ⟨k1_0, k1_1, k1_2⟩ := (FC4.out.get 0 rfl).three
    have kz1 := (FC4.out.get 0 rfl).lt
    go_wp2_with fail
    refine (Copy_any s ps ⟨A, c⟩ (by omega) HG.out _ (Fr.lies HA.out FC4.out)).mono ?_
    rintro e w21 ⟨g9, rfl, hl9, hk9, hb21⟩
    clear k0_0 k0_1 kf0 kg0 kz0 k1_0 k1_1 k1_2 kz1
    have G21 := Fr.call FC4.out hb21
    have HL2 := Lib.hid hl9
    obtain ⟨k0_0, k0_1, kf0, kg0⟩ := (G21.get 1 rfl).two
    have kz0 := (G21.get 1 rfl).lt
    obtain ⟨k1_0, k1_1, k1_2⟩ := (G21.get 0 rfl).three
    have kz1 := (G21.get 0 rfl).lt
    have F21 : Hid (Fr w _ [(w.heap.size + 1, 26, #[.int .i64 b.brk, .int .i64 b.drag, .int .i64 b.drv]), (w.heap.size, 24, #[.string s, .slice A ps.length c])]) := Lib.hid G21
    clear hb21 G21 FC4
    clear hl9 hk9
    go_wp2_with fail
    refine (HCI.out _ (Fr.lies HLR.out F21.out)).mono ?_
    rintro e w22 ⟨g10, rfl, hl10, hk10, _, hb22⟩
    clear k0_0 k0_1 kf0 kg0 kz0 k1_0 k1_1 k1_2 kz1
    have G22 := Fr.call F21.out hb22
    have HL4 := Lib.hid hl10
    have HL2 := Lib.hid (Lies.call HL2.out hb22)
    obtain ⟨k0_0, k0_1, kf0, kg0⟩ := (G22.get 1 rfl).two
    have kz0 := (G22.get 1 rfl).lt
    obtain ⟨k1_0, k1_1, k1_2⟩ := (G22.get 0 rfl).three
    have kz1 := (G22.get 0 rfl).lt
    have F22 : Hid (Fr w _ [(w.heap.size + 1, 26, #[.int .i64 b.brk, .int .i64 b.drag, .int .i64 b.drv]), (w.heap.size, 24, #[.string s, .slice A ps.length c])]) := Lib.hid G22
    clear hb22 G22 F21
    clear hl10 hk10
    go_wp2_with fail
    refine (HTM.out _ _ _ _ _ HL2.out HL4.out).mono ?_
    rintro e w23 ⟨rfl, hb23⟩
    clear k0_0 k0_1 kf0 kg0 kz0 k1_0 k1_1 k1_2 kz1
    have G23 := Fr.call F22.out hb23
    obtain ⟨k0_0, k0_1, kf0, kg0⟩ := (G23.get 1 rfl).two
    have kz0 := (G23.get 1 rfl).lt
    obtain ⟨k1_0, k1_1, k1_2⟩ := (G23.get 0 rfl).three
    have kz1 := (G23.get 0 rfl).lt
    have F23 : Hid (Fr w _ [(w.heap.size + 1, 26, #[.int .i64 b.brk, .int .i64 b.drag, .int .i64 b.drv]), (w.heap.size, 24, #[.string s, .slice A ps.length c])]) := Lib.hid G23
    clear hb23 G23 F22
    go_upto_region 7 with fail
    refine wp_abs ?_
    intro wq hq9
    have FQ : Hid (Fr w wq [(w23.heap.size, 49, #[.int .i64 0, .int .i64 0]), (w.heap.size + 1, 26, #[.int .i64 b.brk, .int .i64 b.drag, .int .i64 b.drv]), (w.heap.size, 24, #[.string s, .slice A ps.length c])]) := Lib.hid (by subst hq9; exact F23.out.box 49 #[.int .i64 0, .int .i64 0])
    clear hq9 HL2 HL4 F23 k0_0 k0_1 kf0 kg0 kz0 k1_0 k1_1 k1_2 kz1
    obtain ⟨k0_0, k0_1, kf0, kg0⟩ := (FQ.out.get 2 rfl).two
    have kz0 := (FQ.out.get 2 rfl).lt
    obtain ⟨k1_0, k1_1, k1_2⟩ := (FQ.out.get 1 rfl).three
    have kz1 := (FQ.out.get 1 rfl).lt
    obtain ⟨k2_0, k2_1, kf2, kg2⟩ := (FQ.out.get 0 rfl).two
    have kz2 := (FQ.out.get 0 rfl).lt
    go_wp2_with fail
    refine (TrackErr_any s hs ps A c hl _ (Fr.lies HA.out FQ.out)).mono ?_
    rintro e w24 ⟨rfl, hb24⟩
    rw [HTR.out]
    clear k0_0 k0_1 kf0 kg0 kz0 k1_0 k1_1 k1_2 kz1 k2_0 k2_1 kf2 kg2 kz2
    have G24 := Fr.call FQ.out hb24
    obtain ⟨k0_0, k0_1, kf0, kg0⟩ := (G24.get 2 rfl).two
    have kz0 := (G24.get 2 rfl).lt
    obtain ⟨k1_0, k1_1, k1_2⟩ := (G24.get 1 rfl).three
    have kz1 := (G24.get 1 rfl).lt
    obtain ⟨k2_0, k2_1, kf2, kg2⟩ := (G24.get 0 rfl).two
    have kz2 := (G24.get 0 rfl).lt
    have F24 : Hid (Fr w _ [(w23.heap.size, 49, #[.int .i64 0, .int .i64 0]), (w.heap.size + 1, 26, #[.int .i64 b.brk, .int .i64 b.drag, .int .i64 b.drv]), (w.heap.size, 24, #[.string s, .slice A ps.length c])]) := Lib.hid G24
    clear hb24 G24 FQ
    go_wp2_with fail
    refine (BothErr_any s hs ps A c hl b _ (Fr.lies HA.out F24.out)).mono ?_
    rintro e w25 ⟨rfl, hb25⟩
    rw [HBO.out]
    clear k0_0 k0_1 kf0 kg0 kz0 k1_0 k1_1 k1_2 kz1 k2_0 k2_1 kf2 kg2 kz2
    have G25 := Fr.call F24.out hb25
    obtain ⟨k0_0, k0_1, kf0, kg0⟩ := (G25.get 2 rfl).two
    have kz0 := (G25.get 2 rfl).lt
    obtain ⟨k1_0, k1_1, k1_2⟩ := (G25.get 1 rfl).three
    have kz1 := (G25.get 1 rfl).lt
    obtain ⟨k2_0, k2_1, kf2, kg2⟩ := (G25.get 0 rfl).two
    have kz2 := (G25.get 0 rfl).lt
    have F25 : Hid (Fr w _ [(w23.heap.size, 49, #[.int .i64 0, .int .i64 0]), (w.heap.size + 1, 26, #[.int .i64 b.brk, .int .i64 b.drag, .int .i64 b.drv]), (w.heap.size, 24, #[.string s, .slice A ps.length c])]) := Lib.hid G25
    clear hb25 G25 F24
    go_wp2_with fail
    refine (HSQ.out _ (Fr.lies HLR.out F25.out)).mono ?_
    rintro e w26 ⟨rfl, hb26⟩
    clear k0_0 k0_1 kf0 kg0 kz0 k1_0 k1_1 k1_2 kz1 k2_0 k2_1 kf2 kg2 kz2
    have G26 := Fr.call F25.out hb26
    obtain ⟨k0_0, k0_1, kf0, kg0⟩ := (G26.get 2 rfl).two
    have kz0 := (G26.get 2 rfl).lt
    obtain ⟨k1_0, k1_1, k1_2⟩ := (G26.get 1 rfl).three
    have kz1 := (G26.get 1 rfl).lt
    obtain ⟨k2_0, k2_1, kf2, kg2⟩ := (G26.get 0 rfl).two
    have kz2 := (G26.get 0 rfl).lt
    have F26 : Hid (Fr w _ [(w23.heap.size, 49, #[.int .i64 0, .int .i64 0]), (w.heap.size + 1, 26, #[.int .i64 b.brk, .int .i64 b.drag, .int .i64 b.drv]), (w.heap.size, 24, #[.string s, .slice A ps.length c])]) := Lib.hid G26
    clear hb26 G26 F25
    go_wp2_with fail
    refine (HSQ.out _ (Fr.lies HLR.out F26.out)).mono ?_
    rintro e w27 ⟨rfl, hb27⟩
    clear k0_0 k0_1 kf0 kg0 kz0 k1_0 k1_1 k1_2 kz1 k2_0 k2_1 kf2 kg2 kz2
    have G27 := Fr.call F26.out hb27
    obtain ⟨k0_0, k0_1, kf0, kg0⟩ := (G27.get 2 rfl).two
    have kz0 := (G27.get 2 rfl).lt
    obtain ⟨k1_0, k1_1, k1_2⟩ := (G27.get 1 rfl).three
    have kz1 := (G27.get 1 rfl).lt
    obtain ⟨k2_0, k2_1, kf2, kg2⟩ := (G27.get 0 rfl).two
    have kz2 := (G27.get 0 rfl).lt
    have F27 : Hid (Fr w _ [(w23.heap.size, 49, #[.int .i64 0, .int .i64 0]), (w.heap.size + 1, 26, #[.int .i64 b.brk, .int .i64 b.drag, .int .i64 b.drv]), (w.heap.size, 24, #[.string s, .slice A ps.length c])]) := Lib.hid G27
    clear hb27 G27 F26
    go_wp2_with fail
    go_ret
    exact ⟨rfl, (F27.out.new _).bl⟩

set_option maxHeartbeats 8000000 in
set_option maxRecDepth 100000 in
theorem sq_C2 (s : ByteArray) (hs : s.size ≤ maxLen) (ps : List Bp) (A : Option Addr) (c : Nat) (hg : HdOk ⟨A, c⟩) (hl : ps.length ≤ maxLen) (b : Bs) (l : List Int) (B : Option Addr) (d : Nat) (hgr : HdOk ⟨B, d⟩) (hll : l.length ≤ maxLen) (er ff hi kk lo : Int) (hsh : shortB s ps = true) (h16 : l.length ≤ 16) (hT : (trE s ps).2 = 0) (hO : bothE s ps b = 0) (hS : sqsE ps l = 0) (hck : (∀ (A' : Option Addr) (c' : Nat) (B' : Option Addr) (d' : Nat) (W : World), Lies W W.heap.size A' (ps.flatMap pc) → Lies W W.heap.size B' (ic l) → Calls Try.prog 18 #[.agg #[.string s, .slice A' ps.length c'], .agg #[.int .i64 b.brk, .int .i64 b.drag, .int .i64 b.drv], .slice B' l.length d'] W fun e w' => e = .returned (.tuple #[.int .i64 kk, .int .i64 ff]) ∧ Below W.heap.size W w')) (htm : (∀ (A' : Option Addr) (c' : Nat) (B' : Option Addr) (d' : Nat) (W : World), Lies W W.heap.size A' (ps.flatMap pc) → Lies W W.heap.size B' (ic l) → Calls Try.prog 20 #[.agg #[.string s, .slice A' ps.length c'], .slice B' l.length d'] W fun e w' => e = .returned (.tuple #[.agg #[.int .i64 lo, .int .i64 hi], .int .i64 er]) ∧ Below W.heap.size W w')) (hck2 : (∀ (A' : Option Addr) (c' : Nat) (B' : Option Addr) (d' : Nat) (W : World), Lies W W.heap.size A' (ps.flatMap pc) → Lies W W.heap.size B' (ic l) → Calls Try.prog 23 #[.agg #[.string s, .slice A' ps.length c'], .agg #[.int .i64 b.brk, .int .i64 b.drag, .int .i64 b.drv], .slice B' l.length d'] W fun e w' => e = .returned (.tuple #[.int .i64 kk, .int .i64 ff]) ∧ Below W.heap.size W w')) (htm2 : (∀ (A' : Option Addr) (c' : Nat) (B' : Option Addr) (d' : Nat) (W : World), Lies W W.heap.size A' (ps.flatMap pc) → Lies W W.heap.size B' (ic l) → Calls Try.prog 24 #[.agg #[.string s, .slice A' ps.length c'], .slice B' l.length d'] W fun e w' => e = .returned (.tuple #[.agg #[.int .i64 lo, .int .i64 hi], .int .i64 er]) ∧ Below W.heap.size W w'))  (w : World) (hA : Lies w w.heap.size A (ps.flatMap pc)) (hB : Lies w w.heap.size B (ic l)) : Calls Try.prog 4 #[.agg #[.string s, .slice A ps.length c], .agg #[.int .i64 b.brk, .int .i64 b.drag, .int .i64 b.drv], .slice B l.length d] w fun e w' => e = .returned (.bool true) ∧ Below w.heap.size w w' := by
  have HSQ : Hid (∀ W, Lies W W.heap.size B (ic l) → Calls Try.prog 22 #[.agg #[.string s, .slice A ps.length c], .slice B l.length d] W fun e w' => e = .returned (.int .i64 0) ∧ Below W.heap.size W w') := Lib.hid (fun W h => by have := SquaresErr_any s ps A c (by have := (short_iff.1 hsh).2; omega) l B d hll W h; rw [hS] at this; exact this)
  have HCI : Hid (∀ W : World, Lies W W.heap.size B (ic l) → Calls Try.prog 19 #[.slice B l.length d] W fun e w' => ∃ g : Hd, e = .returned (.slice g.A l.length g.c) ∧ Lies w' w'.heap.size g.A (ic l) ∧ HdOk g ∧ (∀ a, g.A = some a → W.heap.size ≤ a.block) ∧ Below W.heap.size W w') := Lib.hid (fun W h => CopyInts_any l ⟨B, d⟩ (by omega) hgr W h)
  obtain ⟨NR, hNR⟩ : ∃ n, l.length = n := ⟨_, rfl⟩
  have HNR := Lib.hid hNR
  rw [hNR] at HSQ HCI h16 hck htm hck2 htm2 ⊢
  have HCK := Lib.hid hck
  have HTM := Lib.hid htm
  have HCK2 := Lib.hid hck2
  have HTM2 := Lib.hid htm2
  have HTR := Lib.hid hT
  have HBO := Lib.hid hO
  have h16i : ¬ (16 : Int) < (NR : Int) := by omega
  clear hNR hT hO hS hck htm hck2 htm2
  have F0 := Lib.hid (Fr.b2 w 24 #[.string s, .slice A ps.length c] 26 #[.int .i64 b.brk, .int .i64 b.drag, .int .i64 b.drv])
  have HA := Lib.hid hA
  have HG := Lib.hid hg
  have HLR := Lib.hid hB
  have HGR := Lib.hid hgr
  clear hA hg hB hgr
  have HSH := Lib.hid hsh
  have hl14 : ps.length ≤ 14 := (short_iff.1 hsh).2
  clear hsh
  clear hll
  go_enter Try.func4, Try.ntmps4
  go_wp2_with fail
  refine (awake_any _).mono ?_
  rintro e w1 ⟨rfl, hb1⟩
  have G1 := Fr.call F0.out hb1
  obtain ⟨k0_0, k0_1, kf0, kg0⟩ := (G1.get 1 rfl).two
  have kz0 := (G1.get 1 rfl).lt
  obtain ⟨k1_0, k1_1, k1_2⟩ := (G1.get 0 rfl).three
  have kz1 := (G1.get 0 rfl).lt
  have F1 : Hid (Fr w _ [(w.heap.size + 1, 26, #[.int .i64 b.brk, .int .i64 b.drag, .int .i64 b.drv]), (w.heap.size, 24, #[.string s, .slice A ps.length c])]) := Lib.hid G1
  clear hb1 G1 F0
  go_wp2_with fail
  refine (Short_any s hs ps A c hl _).mono ?_
  rintro e w2 ⟨rfl, hb2⟩
  rw [HSH.out]
  clear k0_0 k0_1 kf0 kg0 kz0 k1_0 k1_1 k1_2 kz1
  have G2 := Fr.call F1.out hb2
  obtain ⟨k0_0, k0_1, kf0, kg0⟩ := (G2.get 1 rfl).two
  have kz0 := (G2.get 1 rfl).lt
  obtain ⟨k1_0, k1_1, k1_2⟩ := (G2.get 0 rfl).three
  have kz1 := (G2.get 0 rfl).lt
  have F2 : Hid (Fr w _ [(w.heap.size + 1, 26, #[.int .i64 b.brk, .int .i64 b.drag, .int .i64 b.drv]), (w.heap.size, 24, #[.string s, .slice A ps.length c])]) := Lib.hid G2
  clear hb2 G2 F1
  go_upto_region 5 with fail
  clear k0_0 k0_1 kf0 kg0 kz0 k1_0 k1_1 k1_2 kz1
  go_cut [7, 8] from 25 to 33 (fun r e W => (r = .int .i64 kk ∧ e = .int .i64 ff) ∧ Fr w2 W [])
  case first =>
    have HALL : Hid (∀ W, Fr w2 W [] → Fr w2 W [] ∧ W.cell? ⟨w.heap.size, 0, none⟩ = some (.string s) ∧ W.cell? ⟨w.heap.size, 1, none⟩ = some (.slice A ps.length c) ∧ W.cell? ⟨w.heap.size + 1, 0, none⟩ = some (.int .i64 b.brk) ∧ W.cell? ⟨w.heap.size + 1, 1, none⟩ = some (.int .i64 b.drag) ∧ W.cell? ⟨w.heap.size + 1, 2, none⟩ = some (.int .i64 b.drv)) := Lib.hid (fun W hW => ⟨hW, ((F2.out.get 1 rfl).call hW.bl).cell 0, ((F2.out.get 1 rfl).call hW.bl).cell 1, ((F2.out.get 0 rfl).call hW.bl).cell 0, ((F2.out.get 0 rfl).call hW.bl).cell 1, ((F2.out.get 0 rfl).call hW.bl).cell 2⟩)
    have HAC := Lib.hid (Fr.lies HA.out F2.out); have HRC := Lib.hid (Fr.lies HLR.out F2.out)
    have F10 : Fr w2 _ [] := Fr.nil w2
    go_region_held3 (fun W => Fr w2 W [] ∧ W.cell? ⟨w.heap.size, 0, none⟩ = some (.string s) ∧ W.cell? ⟨w.heap.size, 1, none⟩ = some (.slice A ps.length c) ∧ W.cell? ⟨w.heap.size + 1, 0, none⟩ = some (.int .i64 b.brk) ∧ W.cell? ⟨w.heap.size + 1, 1, none⟩ = some (.int .i64 b.drag) ∧ W.cell? ⟨w.heap.size + 1, 2, none⟩ = some (.int .i64 b.drv))
        ((go_split_ands; refine HALL.out _ ?_; (first | assumption | (repeat (first | assumption | refine Fr.new ?_ _ | refine Fr.drew ?_ | (refine Fr.set ?_ (by first | exact Nat.le_refl _ | omega | (simp; done) | (simp; omega)) (by first | (simp; done) | (simp; omega)) _))); done)))
        ((first
          | (go_at_call 10; go_split_ands; (with_reducible refine (Copy_any s ps ⟨A, c⟩ (by omega) HG.out _ (Fr.lies HAC.out (by assumption))).mono ?_); rintro e w1 ⟨g2, rfl, hl2, hk2, hb1⟩; have HL2 := Lib.hid hl2; have F4 := Fr.call (by assumption) hb1; clear hb1 hl2 hk2)
          | (go_at_call 19; go_split_ands; (with_reducible refine (HCI.out _ (Fr.lies HRC.out (by assumption))).mono ?_); rintro e w1 ⟨g4, rfl, hl4, hk4, _, hb1⟩; have HL4 := Lib.hid hl4; have F6 := Fr.call (by assumption) hb1; have HL2 := Lib.hid (Lies.call HL2.out hb1); clear hb1 hl4 hk4)
          | (go_at_call 18; go_split_ands; (with_reducible refine (HCK.out _ _ _ _ _ HL2.out HL4.out).mono ?_); rintro e w1 ⟨rfl, hb1⟩; have F5 := Fr.call (by assumption) hb1; clear hb1)
          | fail "arm"))
    all_goals
      go_split_ands
      go_wp2_with fail
      go_meet
      exact ⟨⟨rfl, rfl⟩, by assumption⟩
  case rest =>
    obtain ⟨wx5, rfl⟩ : ∃ W, W = wc := ⟨_, rfl⟩
    obtain ⟨⟨rfl, rfl⟩, hx⟩ := hcut
    have FC5 := Lib.hid (F2.out.call hx.bl)
    clear hx F2
    obtain ⟨k0_0, k0_1, kf0, kg0⟩ := (FC5.out.get 1 rfl).two
    have kz0 := (FC5.out.get 1 rfl).lt
    obtain ⟨k1_0, k1_1, k1_2⟩ := (FC5.out.get 0 rfl).three
    have kz1 := (FC5.out.get 0 rfl).lt
    go_wp2_with fail
    refine (Copy_any s ps ⟨A, c⟩ (by omega) HG.out _ (Fr.lies HA.out FC5.out)).mono ?_
    rintro e w21 ⟨g9, rfl, hl9, hk9, hb21⟩
    clear k0_0 k0_1 kf0 kg0 kz0 k1_0 k1_1 k1_2 kz1
    have G21 := Fr.call FC5.out hb21
    have HL2 := Lib.hid hl9
    obtain ⟨k0_0, k0_1, kf0, kg0⟩ := (G21.get 1 rfl).two
    have kz0 := (G21.get 1 rfl).lt
    obtain ⟨k1_0, k1_1, k1_2⟩ := (G21.get 0 rfl).three
    have kz1 := (G21.get 0 rfl).lt
    have F21 : Hid (Fr w _ [(w.heap.size + 1, 26, #[.int .i64 b.brk, .int .i64 b.drag, .int .i64 b.drv]), (w.heap.size, 24, #[.string s, .slice A ps.length c])]) := Lib.hid G21
    clear hb21 G21 FC5
    clear hl9 hk9
    go_wp2_with fail
    refine (HCI.out _ (Fr.lies HLR.out F21.out)).mono ?_
    rintro e w22 ⟨g10, rfl, hl10, hk10, _, hb22⟩
    clear k0_0 k0_1 kf0 kg0 kz0 k1_0 k1_1 k1_2 kz1
    have G22 := Fr.call F21.out hb22
    have HL4 := Lib.hid hl10
    have HL2 := Lib.hid (Lies.call HL2.out hb22)
    obtain ⟨k0_0, k0_1, kf0, kg0⟩ := (G22.get 1 rfl).two
    have kz0 := (G22.get 1 rfl).lt
    obtain ⟨k1_0, k1_1, k1_2⟩ := (G22.get 0 rfl).three
    have kz1 := (G22.get 0 rfl).lt
    have F22 : Hid (Fr w _ [(w.heap.size + 1, 26, #[.int .i64 b.brk, .int .i64 b.drag, .int .i64 b.drv]), (w.heap.size, 24, #[.string s, .slice A ps.length c])]) := Lib.hid G22
    clear hb22 G22 F21
    clear hl10 hk10
    go_wp2_with fail
    refine (HTM.out _ _ _ _ _ HL2.out HL4.out).mono ?_
    rintro e w23 ⟨rfl, hb23⟩
    clear k0_0 k0_1 kf0 kg0 kz0 k1_0 k1_1 k1_2 kz1
    have G23 := Fr.call F22.out hb23
    obtain ⟨k0_0, k0_1, kf0, kg0⟩ := (G23.get 1 rfl).two
    have kz0 := (G23.get 1 rfl).lt
    obtain ⟨k1_0, k1_1, k1_2⟩ := (G23.get 0 rfl).three
    have kz1 := (G23.get 0 rfl).lt
    have F23 : Hid (Fr w _ [(w.heap.size + 1, 26, #[.int .i64 b.brk, .int .i64 b.drag, .int .i64 b.drv]), (w.heap.size, 24, #[.string s, .slice A ps.length c])]) := Lib.hid G23
    clear hb23 G23 F22
    go_upto_region 7 with fail
    refine wp_abs ?_
    intro wq hq9
    have FQ : Hid (Fr w wq [(w23.heap.size, 49, #[.int .i64 lo, .int .i64 hi]), (w.heap.size + 1, 26, #[.int .i64 b.brk, .int .i64 b.drag, .int .i64 b.drv]), (w.heap.size, 24, #[.string s, .slice A ps.length c])]) := Lib.hid (by subst hq9; exact F23.out.box 49 #[.int .i64 lo, .int .i64 hi])
    clear hq9 HL2 HL4 F23 k0_0 k0_1 kf0 kg0 kz0 k1_0 k1_1 k1_2 kz1
    obtain ⟨k0_0, k0_1, kf0, kg0⟩ := (FQ.out.get 2 rfl).two
    have kz0 := (FQ.out.get 2 rfl).lt
    obtain ⟨k1_0, k1_1, k1_2⟩ := (FQ.out.get 1 rfl).three
    have kz1 := (FQ.out.get 1 rfl).lt
    obtain ⟨k2_0, k2_1, kf2, kg2⟩ := (FQ.out.get 0 rfl).two
    have kz2 := (FQ.out.get 0 rfl).lt
    go_wp2_with fail
    refine (TrackErr_any s hs ps A c hl _ (Fr.lies HA.out FQ.out)).mono ?_
    rintro e w24 ⟨rfl, hb24⟩
    rw [HTR.out]
    clear k0_0 k0_1 kf0 kg0 kz0 k1_0 k1_1 k1_2 kz1 k2_0 k2_1 kf2 kg2 kz2
    have G24 := Fr.call FQ.out hb24
    obtain ⟨k0_0, k0_1, kf0, kg0⟩ := (G24.get 2 rfl).two
    have kz0 := (G24.get 2 rfl).lt
    obtain ⟨k1_0, k1_1, k1_2⟩ := (G24.get 1 rfl).three
    have kz1 := (G24.get 1 rfl).lt
    obtain ⟨k2_0, k2_1, kf2, kg2⟩ := (G24.get 0 rfl).two
    have kz2 := (G24.get 0 rfl).lt
    have F24 : Hid (Fr w _ [(w23.heap.size, 49, #[.int .i64 lo, .int .i64 hi]), (w.heap.size + 1, 26, #[.int .i64 b.brk, .int .i64 b.drag, .int .i64 b.drv]), (w.heap.size, 24, #[.string s, .slice A ps.length c])]) := Lib.hid G24
    clear hb24 G24 FQ
    go_wp2_with fail
    refine (BothErr_any s hs ps A c hl b _ (Fr.lies HA.out F24.out)).mono ?_
    rintro e w25 ⟨rfl, hb25⟩
    rw [HBO.out]
    clear k0_0 k0_1 kf0 kg0 kz0 k1_0 k1_1 k1_2 kz1 k2_0 k2_1 kf2 kg2 kz2
    have G25 := Fr.call F24.out hb25
    obtain ⟨k0_0, k0_1, kf0, kg0⟩ := (G25.get 2 rfl).two
    have kz0 := (G25.get 2 rfl).lt
    obtain ⟨k1_0, k1_1, k1_2⟩ := (G25.get 1 rfl).three
    have kz1 := (G25.get 1 rfl).lt
    obtain ⟨k2_0, k2_1, kf2, kg2⟩ := (G25.get 0 rfl).two
    have kz2 := (G25.get 0 rfl).lt
    have F25 : Hid (Fr w _ [(w23.heap.size, 49, #[.int .i64 lo, .int .i64 hi]), (w.heap.size + 1, 26, #[.int .i64 b.brk, .int .i64 b.drag, .int .i64 b.drv]), (w.heap.size, 24, #[.string s, .slice A ps.length c])]) := Lib.hid G25
    clear hb25 G25 F24
    go_wp2_with fail
    refine (HSQ.out _ (Fr.lies HLR.out F25.out)).mono ?_
    rintro e w26 ⟨rfl, hb26⟩
    clear k0_0 k0_1 kf0 kg0 kz0 k1_0 k1_1 k1_2 kz1 k2_0 k2_1 kf2 kg2 kz2
    have G26 := Fr.call F25.out hb26
    obtain ⟨k0_0, k0_1, kf0, kg0⟩ := (G26.get 2 rfl).two
    have kz0 := (G26.get 2 rfl).lt
    obtain ⟨k1_0, k1_1, k1_2⟩ := (G26.get 1 rfl).three
    have kz1 := (G26.get 1 rfl).lt
    obtain ⟨k2_0, k2_1, kf2, kg2⟩ := (G26.get 0 rfl).two
    have kz2 := (G26.get 0 rfl).lt
    have F26 : Hid (Fr w _ [(w23.heap.size, 49, #[.int .i64 lo, .int .i64 hi]), (w.heap.size + 1, 26, #[.int .i64 b.brk, .int .i64 b.drag, .int .i64 b.drv]), (w.heap.size, 24, #[.string s, .slice A ps.length c])]) := Lib.hid G26
    clear hb26 G26 F25
    go_wp2_with fail
    refine (HCK2.out _ _ _ _ _ (Fr.lies HA.out F26.out) (Fr.lies HLR.out F26.out)).mono ?_
    rintro e w27 ⟨rfl, hb27⟩
    clear k0_0 k0_1 kf0 kg0 kz0 k1_0 k1_1 k1_2 kz1 k2_0 k2_1 kf2 kg2 kz2
    have G27 := Fr.call F26.out hb27
    obtain ⟨k0_0, k0_1, kf0, kg0⟩ := (G27.get 2 rfl).two
    have kz0 := (G27.get 2 rfl).lt
    obtain ⟨k1_0, k1_1, k1_2⟩ := (G27.get 1 rfl).three
    have kz1 := (G27.get 1 rfl).lt
    obtain ⟨k2_0, k2_1, kf2, kg2⟩ := (G27.get 0 rfl).two
    have kz2 := (G27.get 0 rfl).lt
    have F27 : Hid (Fr w _ [(w23.heap.size, 49, #[.int .i64 lo, .int .i64 hi]), (w.heap.size + 1, 26, #[.int .i64 b.brk, .int .i64 b.drag, .int .i64 b.drv]), (w.heap.size, 24, #[.string s, .slice A ps.length c])]) := Lib.hid G27
    clear hb27 G27 F26
    go_wp2_with fail
    refine (HSQ.out _ (Fr.lies HLR.out F27.out)).mono ?_
    rintro e w28 ⟨rfl, hb28⟩
    clear k0_0 k0_1 kf0 kg0 kz0 k1_0 k1_1 k1_2 kz1 k2_0 k2_1 kf2 kg2 kz2
    have G28 := Fr.call F27.out hb28
    have HZG := Lib.hid (show w.heap.size ≤ w28.heap.size from G28.bl.size)
    have HFAR := Lib.hid G28.bk
    obtain ⟨k0_0, k0_1, kf0, kg0⟩ := (G28.get 2 rfl).two
    have kz0 := (G28.get 2 rfl).lt
    obtain ⟨k1_0, k1_1, k1_2⟩ := (G28.get 1 rfl).three
    have kz1 := (G28.get 1 rfl).lt
    obtain ⟨k2_0, k2_1, kf2, kg2⟩ := (G28.get 0 rfl).two
    have kz2 := (G28.get 0 rfl).lt
    have F28 : Hid (Fr w _ [(w28.heap.size, 49, #[.int .i64 0, .int .i64 0]), (w23.heap.size, 49, #[.int .i64 lo, .int .i64 hi]), (w.heap.size + 1, 26, #[.int .i64 b.brk, .int .i64 b.drag, .int .i64 b.drv]), (w.heap.size, 24, #[.string s, .slice A ps.length c])]) := Lib.hid (Fr.box G28 49 #[.int .i64 0, .int .i64 0])
    clear hb28 G28 F27
    go_wp2_with fail
    refine (HTM2.out _ _ _ _ _ (Fr.lies HA.out F28.out) (Fr.lies HLR.out F28.out)).mono ?_
    rintro e w29 ⟨rfl, hb29⟩
    clear k0_0 k0_1 kf0 kg0 kz0 k1_0 k1_1 k1_2 kz1 k2_0 k2_1 kf2 kg2 kz2
    have G29 := Fr.call F28.out hb29
    obtain ⟨k0_0, k0_1, kf0, kg0⟩ := (G29.get 3 rfl).two
    have kz0 := (G29.get 3 rfl).lt
    obtain ⟨k1_0, k1_1, k1_2⟩ := (G29.get 2 rfl).three
    have kz1 := (G29.get 2 rfl).lt
    obtain ⟨k2_0, k2_1, kf2, kg2⟩ := (G29.get 1 rfl).two
    have kz2 := (G29.get 1 rfl).lt
    obtain ⟨k3_0, k3_1, kf3, kg3⟩ := (G29.get 0 rfl).two
    have kz3 := (G29.get 0 rfl).lt
    have F29 : Hid (Fr w _ [(w28.heap.size, 49, #[.int .i64 0, .int .i64 0]), (w23.heap.size, 49, #[.int .i64 lo, .int .i64 hi]), (w.heap.size + 1, 26, #[.int .i64 b.brk, .int .i64 b.drag, .int .i64 b.drv]), (w.heap.size, 24, #[.string s, .slice A ps.length c])]) := Lib.hid G29
    clear hb29 G29 F28
    go_upto_region 21 with fail
    refine wp_abs ?_
    intro wz hz9
    have FZ : Hid (Fr w wz [(w28.heap.size, 49, #[.int .i64 lo, .int .i64 hi]), (w23.heap.size, 49, #[.int .i64 lo, .int .i64 hi]), (w.heap.size + 1, 26, #[.int .i64 b.brk, .int .i64 b.drag, .int .i64 b.drv]), (w.heap.size, 24, #[.string s, .slice A ps.length c])]) := Lib.hid (by subst hz9; exact F29.out.put2a HZG.out (fun b' hb' => Nat.ne_of_lt (HFAR.out b' hb').lt) _ _)
    clear hz9 F29 k0_0 k0_1 kf0 kg0 kz0 k1_0 k1_1 k1_2 kz1 k2_0 k2_1 kf2 kg2 kz2 k3_0 k3_1 kf3 kg3 kz3
    obtain ⟨k0_0, k0_1, kf0, kg0⟩ := (FZ.out.get 3 rfl).two
    have kz0 := (FZ.out.get 3 rfl).lt
    obtain ⟨k1_0, k1_1, k1_2⟩ := (FZ.out.get 2 rfl).three
    have kz1 := (FZ.out.get 2 rfl).lt
    obtain ⟨k2_0, k2_1, kf2, kg2⟩ := (FZ.out.get 1 rfl).two
    have kz2 := (FZ.out.get 1 rfl).lt
    obtain ⟨k3_0, k3_1, kf3, kg3⟩ := (FZ.out.get 0 rfl).two
    have kz3 := (FZ.out.get 0 rfl).lt
    go_wp2_with fail
    go_ret
    exact ⟨rfl, FZ.out.bl⟩

set_option maxHeartbeats 8000000 in
set_option maxRecDepth 100000 in
theorem BrakeSquares_any (s : ByteArray) (hs : s.size ≤ maxLen) (ps : List Bp) (A : Option Addr) (c : Nat) (hg : HdOk ⟨A, c⟩) (hl : ps.length ≤ maxLen) (b : Bs) (l : List Int) (B : Option Addr) (d : Nat) (hgr : HdOk ⟨B, d⟩) (hll : l.length ≤ maxLen) (w : World) (hA : Lies w w.heap.size A (ps.flatMap pc)) (hB : Lies w w.heap.size B (ic l)) : Calls Try.prog 4 #[.agg #[.string s, .slice A ps.length c], .agg #[.int .i64 b.brk, .int .i64 b.drag, .int .i64 b.drv], .slice B l.length d] w fun e w' => e = .returned (.bool true) ∧ Below w.heap.size w w' := by
  cases hsh : shortB s ps with
  | false => exact sq_long s hs ps A c hg hl b l B d hgr hll hsh w hA hB
  | true =>
    by_cases h16 : 16 < l.length
    · exact sq_big s hs ps A c hg hl b l B d hgr hll hsh h16 w hA hB
    · have hl0 : ps.length ≤ 1000 := by have := (short_iff.1 hsh).2; omega
      obtain ⟨kk, ff, hck, hk⟩ := ck_law s hs ps hl0 b l hll
      obtain ⟨lo, hi, er, htm, ht⟩ := tm_law s hs ps hl0 l hll
      by_cases hT : (trE s ps).2 = 0
      · have hOS : bothE s ps b = sE b := by unfold bothE; rw [if_neg (by rw [hT]; simp)]
        rcases hk with ⟨h0, rfl, rfl⟩ | ⟨h0, h2, rfl, rfl⟩ | ⟨h0, h2, hr⟩
        · rcases ht with ⟨t0, _⟩ | ⟨_, t2, rfl, rfl, rfl⟩ | ⟨_, t2, tr⟩
          · exact absurd hT t0
          · exact sq_B1 s hs ps A c hg hl b l B d hgr hll _ _ hsh (by omega) hT rfl rfl hck htm h0 t2 w hA hB
          · exact sq_B2 s hs ps A c hg hl b l B d hgr hll _ _ _ _ hsh (by omega) hT rfl t2 hck htm tr h0 w hA hB
        · rcases ht with ⟨t0, _⟩ | ⟨_, t2, rfl, rfl, rfl⟩ | ⟨_, t2, tr⟩
          · exact absurd hT t0
          · exact sq_C1 s hs ps A c hg hl b l B d hgr hll _ hsh (by omega) hT h0 rfl hck htm h2 w hA hB
          · exact absurd t2 h2
        · rcases ht with ⟨t0, _⟩ | ⟨_, t2, rfl, rfl, rfl⟩ | ⟨_, t2, tr⟩
          · exact absurd hT t0
          · exact absurd h2 t2
          · exact sq_C2 s hs ps A c hg hl b l B d hgr hll _ _ _ _ _ hsh (by omega) hT h0 h2 hck htm hr tr w hA hB
      · have hOE : bothE s ps b = (trE s ps).2 := by unfold bothE; rw [if_pos hT]
        rcases hk with ⟨h0, rfl, rfl⟩ | ⟨h0, _⟩ | ⟨h0, _⟩
        · rcases ht with ⟨_, rfl, rfl, rfl⟩ | ⟨t0, _⟩ | ⟨t0, _⟩
          · rw [hOE] at hck
            exact sq_A s hs ps A c hg hl b l B d hgr hll _ _ hsh (by omega) rfl hOE rfl hck htm hT w hA hB
          · exact absurd t0 hT
          · exact absurd t0 hT
        · exact absurd (hOE ▸ h0) hT
        · exact absurd (hOE ▸ h0) hT
end Go.Proofs.Ytmjooiocgeoaiaa
