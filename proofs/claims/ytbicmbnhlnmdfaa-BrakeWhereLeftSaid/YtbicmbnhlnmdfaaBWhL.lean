
/-
  The walk of BrakeWhereLeft.
-/
import Derived.Test.YtbicmbnhlnmdfaaBKit
import Derived.Test.YtbicmbnhlnmdfaaBWhA
import Derived.Test.YtbicmbnhlnmdfaaBErr
import Derived.Test.YtbicmbnhlnmdfaaBRnA
import Derived.Test.YtbicmbnhlnmdfaaBRnC
import Derived.Test.YtbicmbnhlnmdfaaBSt2
namespace Go.Proofs.Ytbicmbnhlnmdfaa
open Go.RowKit
theorem list_cell {w : World} {B : Nat} {a : Addr} {n k : Nat} {f : Nat → Int} (h : Lies w B (some a) (ic (listF n f))) (hk : k < n) : w.cell? (a.add k) = some (.int .i64 (f k)) := by
  obtain ⟨b, e, _, c⟩ := h.num (listF_at hk)
  injection e with e
  subst e
  exact c

set_option maxHeartbeats 8000000 in
set_option maxRecDepth 100000 in
theorem wl_ok (s : ByteArray) (hs : s.size ≤ maxLen) (ps : List Bp) (A : Option Addr) (c : Nat) (hg : HdOk ⟨A, c⟩) (hl : ps.length ≤ maxLen) (b : Bs) (p k : Nat) (sq : Int) (hsh : shortB s ps = true) (h0 : bothE s ps b = 0) (h1 : stateE ps (p : Int) sq = 0) (h2 : stopE ps (k : Int) = 0) (hpk : p ≤ k) (h3 : runE ps b k p sq = 0) (w : World) (hA : Lies w w.heap.size A (ps.flatMap pc)) : Calls Try.prog 3 #[.agg #[.string s, .slice A ps.length c], .agg #[.int .i64 b.brk, .int .i64 b.drag, .int .i64 b.drv], .agg #[.int .i64 (p : Int), .int .i64 sq, .int .i64 (k : Int)]] w fun e w' => e = .returned (.bool true) ∧ Below w.heap.size w w' := by
  obtain ⟨hok, hb⟩ := bothE_zero h0
  obtain ⟨k2, hk2, hk, hlv⟩ := stopE_ok h2
  obtain rfl : k = k2 := by omega
  clear hk2
  obtain ⟨p2, hp2, _, hq0, hq1⟩ := stateE_ok h1
  clear hp2
  have hq : 0 ≤ sq ∧ sq ≤ 20000000000 := ⟨hq0, hq1⟩
  obtain ⟨a, rfl⟩ := ps_some hA hok.n0
  have hsb : sE b = 0 := sE_of hb
  obtain ⟨N, hN⟩ : ∃ N, N = k - p + 1 := ⟨_, rfl⟩
  obtain ⟨M, hM⟩ : ∃ M, M = ps.length + 1 := ⟨_, rfl⟩
  have HTR : Hid ((trE s ps).2 = 0) := Lib.hid (by rw [trE_ok hok])
  have HIN := Lib.hid (fun i (hi : i < N) => run_in hok.each h3 (i := i) (by omega))
  have HDR := Lib.hid (fun i => run_drive hok.each hb k p sq i)
  have HBR := Lib.hid (fun i (hi : i + 1 < N) => run_brake hok.each hb h3 (i := i) (by omega))
  have HLA := Lib.hid (run_still hok.each hpk h3)
  have HLT := Lib.hid (run_last hok.each hpk h3)
  have HRT : Hid (∀ (A' : Option Addr) (c' : Nat) (W : World), Lies W W.heap.size A' (ps.flatMap pc) → Calls Try.prog 12 #[.agg #[.string s, .slice A' ps.length c'], .agg #[.int .i64 b.brk, .int .i64 b.drag, .int .i64 b.drv], .agg #[.int .i64 (p : Int), .int .i64 sq], .int .i64 (k : Int)] W fun e w' => ∃ g : Hd, e = .returned (.tuple #[.slice g.A N g.c, .int .i64 0]) ∧ Lies w' w'.heap.size g.A (ic (listF N (runV ps b k p sq))) ∧ Below W.heap.size W w') := Lib.hid (fun A' c' W h => by obtain ⟨a', rfl⟩ := ps_some h hok.n0; have := RunTo_ok s hs ps a' c' (by have := hok.n12; omega) b hok hb hsb k p hk hlv hpk sq hq W h; rw [h3, ← hN] at this; exact this.mono fun _ _ h => rowE_ok h)
  have HLI : Hid (∀ (A' : Option Addr) (c' : Nat) (W : World), Lies W W.heap.size A' (ps.flatMap pc) → Calls Try.prog 14 #[.agg #[.string s, .slice A' ps.length c']] W fun e w' => ∃ g : Hd, e = .returned (.tuple #[.slice g.A M g.c, .int .i64 0]) ∧ Lies w' w'.heap.size g.A (ic (listF M (limV ps))) ∧ Below W.heap.size W w') := Lib.hid (fun A' c' W h => by have := LimitsAt_any s hs ps A' c' hl 0 HTR.out W h; rw [← hM] at this; exact this.mono fun _ _ h => rowE_ok h)
  have HPL : Hid (∀ (A' : Option Addr) (c' : Nat) (W : World), Lies W W.heap.size A' (ps.flatMap pc) → Calls Try.prog 15 #[.agg #[.string s, .slice A' ps.length c']] W fun e w' => ∃ g : Hd, e = .returned (.tuple #[.slice g.A M g.c, .int .i64 0]) ∧ Lies w' w'.heap.size g.A (ic (listF M (plcV ps))) ∧ Below W.heap.size W w') := Lib.hid (fun A' c' W h => by have := Places_any s hs ps A' c' hl 0 HTR.out W h; rw [← hM] at this; exact this.mono fun _ _ h => rowE_ok h)
  have HRE : Hid (∀ i : Nat, i < N → ∀ (A' : Option Addr) (c' : Nat) (W : World), Lies W W.heap.size A' (ps.flatMap pc) → Calls Try.prog 17 #[.agg #[.string s, .slice A' ps.length c'], .agg #[.int .i64 b.brk, .int .i64 b.drag, .int .i64 b.drv], .agg #[.int .i64 ((p + i : Nat) : Int), .int .i64 (runV ps b k p sq i)], .int .i64 (k : Int)] W fun e w' => e = .returned (.tuple #[.bool true, .int .i64 0]) ∧ Below W.heap.size W w') := Lib.hid (fun i hi A' c' W h => by
    obtain ⟨a', rfl⟩ := ps_some h hok.n0
    have h5 := HIN.out i hi
    have h6 := (limV_bound hok.each (p + i)).2
    have := Reaches_ok s hs ps a' c' (by have := hok.n12; omega) b hok hb hsb k (p + i) hk hlv (by omega) _ ⟨h5.1, by omega⟩ W h
    rw [reach_on h3 (by omega)] at this
    exact this)
  have HSA : Hid (∀ (A' : Option Addr) (c' : Nat) (W : World), Lies W W.heap.size A' (ps.flatMap pc) → Calls Try.prog 18 #[.agg #[.string s, .slice A' ps.length c'], .agg #[.int .i64 b.brk, .int .i64 b.drag, .int .i64 b.drv], .agg #[.int .i64 (k : Int), .int .i64 (runV ps b k p sq (k - p))]] W fun e w' => ∃ lo hi er : Int, e = .returned (.tuple #[.agg #[.int .i64 lo, .int .i64 hi], .int .i64 er]) ∧ (0 < b.brk + 10 * (gp ps k).grad → er = 0 ∧ plcV ps k ≤ lo ∧ lo ≤ hi ∧ hi ≤ plcV ps (k + 1)) ∧ Below W.heap.size W w') := Lib.hid (fun A' c' W h => by
    obtain ⟨a', rfl⟩ := ps_some h hok.n0
    have h5 := HLT.out
    have h6 := HIN.out (k - p) (by omega)
    have h7 := (limV_bound hok.each (p + (k - p))).2
    have hx : 0 ≤ runV ps b k p sq (k - p) ∧ runV ps b k p sq (k - p) ≤ 20000000000 := ⟨h5.1, by omega⟩
    by_cases hd : 0 < b.brk + 10 * (gp ps k).grad
    · have h8 := stand_in hd h5.1 (by have := h5.2; unfold lossV at this; exact this)
      refine (StandsAt_ok s hs ps a' c' (by have := hok.n12; omega) b hok hb hsb k _ hx 0 hk (fun j hj => absurd hj (Nat.not_lt_zero _)) ⟨hd, h5.2⟩ h5.1 W h).mono fun _ _ h => ⟨_, _, _, h.1, fun _ => ⟨rfl, ?_, ?_, ?_⟩, h.2⟩
      · have := h8.1; simp only [sqS, Nat.add_zero]; omega
      · have := h8.2.1; simp only [sqS, Nat.add_zero]; omega
      · have := h8.2.2; simp only [sqS, Nat.add_zero, plcV]; omega
    · refine (StandsAt_ret s hs ps a' c' (by have := hok.n12; omega) b hok hb hsb k _ hx (by omega) W h).mono fun _ _ h => ?_
      obtain ⟨⟨x, y, er, he⟩, hb⟩ := h
      exact ⟨x, y, er, he, fun h => absurd h hd, hb⟩)
  have F0 := Lib.hid (Fr.b3 w 24 #[.string s, .slice (some a) ps.length c] 26 #[.int .i64 b.brk, .int .i64 b.drag, .int .i64 b.drv] 30 #[.int .i64 (p : Int), .int .i64 sq, .int .i64 (k : Int)])
  have HA := Lib.hid hA
  have HG := Lib.hid hg
  clear hA hg
  have HSH := Lib.hid hsh
  have hl14 : ps.length ≤ 14 := (short_iff.1 hsh).2
  clear hsh
  have H0 := Lib.hid h0
  have H1 := Lib.hid h1
  have H2 := Lib.hid h2
  have hpk4 : decide (k < p) = false := decide_eq_false (by omega)
  have hpk5 : ¬ (k < p) := by omega
  have h12 := hok.n12
  have hN14 : N ≤ 13 := by omega
  have hM14 : M ≤ 13 := by omega
  have hNp : p + N = k + 1 := by omega
  have hwl := IntWalk.i64_in ((ps.length : Int) + 1) (by omega)
  have hwk := IntWalk.i64_in ((k : Int) - (p : Int)) (by omega)
  have hwk1 := IntWalk.i64_in ((k : Int) - (p : Int) + 1) (by omega)
  have hnM : ((M : Int) != (ps.length : Int) + 1) = false := by simp; omega
  have hnN : ((N : Int) != (k : Int) - (p : Int) + 1) = false := by simp; omega
  have hN0 : 0 < N := by omega
  have hM1 : (M : Int) ≤ (ps.length : Int) + 1 := by omega
  have hM2 : (ps.length : Int) + 1 ≤ (M : Int) := by omega
  have hN1 : (N : Int) ≤ (k : Int) - (p : Int) + 1 := by omega
  have hN2 : (k : Int) - (p : Int) + 1 ≤ (N : Int) := by omega
  have hdM : decide ((M : Int) = (ps.length : Int) + 1) = true := decide_eq_true (by omega)
  have hdN : decide ((N : Int) = (k : Int) - (p : Int) + 1) = true := decide_eq_true (by omega)
  have hN0i : (0 : Int) < (N : Int) := by omega
  have HOK := Lib.hid hok
  have HB := Lib.hid hb
  have HK := Lib.hid hk
  have HNE := Lib.hid hN
  have HME := Lib.hid hM
  clear hok hb hsb h0 h1 h2 hlv hk hq hq0 hq1 h3 hN hM
  go_enter Try.func3, Try.ntmps3
  go_wp2_with fail
  refine (awake_any _).mono ?_
  rintro e w1 ⟨rfl, hb1⟩
  have G1 := Fr.call F0.out hb1
  obtain ⟨k0_0, k0_1, kf0, kg0⟩ := (G1.get 2 rfl).two
  have kz0 := (G1.get 2 rfl).lt
  obtain ⟨k1_0, k1_1, k1_2⟩ := (G1.get 1 rfl).three
  have kz1 := (G1.get 1 rfl).lt
  obtain ⟨k2_0, k2_1, k2_2⟩ := (G1.get 0 rfl).three
  have kz2 := (G1.get 0 rfl).lt
  have F1 : Hid (Fr w _ [(w.heap.size + 1 + 1, 30, #[.int .i64 (p : Int), .int .i64 sq, .int .i64 (k : Int)]), (w.heap.size + 1, 26, #[.int .i64 b.brk, .int .i64 b.drag, .int .i64 b.drv]), (w.heap.size, 24, #[.string s, .slice (some a) ps.length c])]) := Lib.hid G1
  clear hb1 G1 F0
  go_wp2_with fail
  refine (Short_any s hs ps (some a) c hl _).mono ?_
  rintro e w2 ⟨rfl, hb2⟩
  rw [HSH.out]
  clear k0_0 k0_1 kf0 kg0 kz0 k1_0 k1_1 k1_2 kz1 k2_0 k2_1 k2_2 kz2
  have G2 := Fr.call F1.out hb2
  obtain ⟨k0_0, k0_1, kf0, kg0⟩ := (G2.get 2 rfl).two
  have kz0 := (G2.get 2 rfl).lt
  obtain ⟨k1_0, k1_1, k1_2⟩ := (G2.get 1 rfl).three
  have kz1 := (G2.get 1 rfl).lt
  obtain ⟨k2_0, k2_1, k2_2⟩ := (G2.get 0 rfl).three
  have kz2 := (G2.get 0 rfl).lt
  have F2 : Hid (Fr w _ [(w.heap.size + 1 + 1, 30, #[.int .i64 (p : Int), .int .i64 sq, .int .i64 (k : Int)]), (w.heap.size + 1, 26, #[.int .i64 b.brk, .int .i64 b.drag, .int .i64 b.drv]), (w.heap.size, 24, #[.string s, .slice (some a) ps.length c])]) := Lib.hid G2
  clear hb2 G2 F1
  go_wp2_with fail
  refine (BothErr_any s hs ps (some a) c hl b _ (Fr.lies HA.out F2.out)).mono ?_
  rintro e w3 ⟨rfl, hb3⟩
  rw [H0.out]
  clear k0_0 k0_1 kf0 kg0 kz0 k1_0 k1_1 k1_2 kz1 k2_0 k2_1 k2_2 kz2
  have G3 := Fr.call F2.out hb3
  obtain ⟨k0_0, k0_1, kf0, kg0⟩ := (G3.get 2 rfl).two
  have kz0 := (G3.get 2 rfl).lt
  obtain ⟨k1_0, k1_1, k1_2⟩ := (G3.get 1 rfl).three
  have kz1 := (G3.get 1 rfl).lt
  obtain ⟨k2_0, k2_1, k2_2⟩ := (G3.get 0 rfl).three
  have kz2 := (G3.get 0 rfl).lt
  have F3 : Hid (Fr w _ [(w.heap.size + 1 + 1, 30, #[.int .i64 (p : Int), .int .i64 sq, .int .i64 (k : Int)]), (w.heap.size + 1, 26, #[.int .i64 b.brk, .int .i64 b.drag, .int .i64 b.drv]), (w.heap.size, 24, #[.string s, .slice (some a) ps.length c])]) := Lib.hid G3
  clear hb3 G3 F2
  go_wp2_with fail
  refine (StateErr_any s ps (some a) c (by omega) (p : Int) sq _).mono ?_
  rintro e w4 ⟨rfl, hb4⟩
  rw [H1.out]
  clear k0_0 k0_1 kf0 kg0 kz0 k1_0 k1_1 k1_2 kz1 k2_0 k2_1 k2_2 kz2
  have G4 := Fr.call F3.out hb4
  obtain ⟨k0_0, k0_1, kf0, kg0⟩ := (G4.get 2 rfl).two
  have kz0 := (G4.get 2 rfl).lt
  obtain ⟨k1_0, k1_1, k1_2⟩ := (G4.get 1 rfl).three
  have kz1 := (G4.get 1 rfl).lt
  obtain ⟨k2_0, k2_1, k2_2⟩ := (G4.get 0 rfl).three
  have kz2 := (G4.get 0 rfl).lt
  have F4 : Hid (Fr w _ [(w.heap.size + 1 + 1, 30, #[.int .i64 (p : Int), .int .i64 sq, .int .i64 (k : Int)]), (w.heap.size + 1, 26, #[.int .i64 b.brk, .int .i64 b.drag, .int .i64 b.drv]), (w.heap.size, 24, #[.string s, .slice (some a) ps.length c])]) := Lib.hid G4
  clear hb4 G4 F3
  go_wp2_with fail
  refine (StopErr_any s ps (some a) c (by omega) (k : Int) _ (Fr.lies HA.out F4.out)).mono ?_
  rintro e w5 ⟨rfl, hb5⟩
  rw [H2.out]
  clear k0_0 k0_1 kf0 kg0 kz0 k1_0 k1_1 k1_2 kz1 k2_0 k2_1 k2_2 kz2
  have G5 := Fr.call F4.out hb5
  obtain ⟨k0_0, k0_1, kf0, kg0⟩ := (G5.get 2 rfl).two
  have kz0 := (G5.get 2 rfl).lt
  obtain ⟨k1_0, k1_1, k1_2⟩ := (G5.get 1 rfl).three
  have kz1 := (G5.get 1 rfl).lt
  obtain ⟨k2_0, k2_1, k2_2⟩ := (G5.get 0 rfl).three
  have kz2 := (G5.get 0 rfl).lt
  have F5 : Hid (Fr w _ [(w.heap.size + 1 + 1, 30, #[.int .i64 (p : Int), .int .i64 sq, .int .i64 (k : Int)]), (w.heap.size + 1, 26, #[.int .i64 b.brk, .int .i64 b.drag, .int .i64 b.drv]), (w.heap.size, 24, #[.string s, .slice (some a) ps.length c])]) := Lib.hid G5
  clear hb5 G5 F4
  go_upto_region 5 with fail
  clear k0_0 k0_1 kf0 kg0 kz0 k1_0 k1_1 k1_2 kz1 k2_0 k2_1 k2_2 kz2
  go_cut [7, 8] from 53 to 63 (fun r e W => (∃ g : Hd, r = .slice g.A (N : Nat) g.c ∧ e = .int .i64 0 ∧ Lies W W.heap.size g.A (ic (listF N (runV ps b k p sq)))) ∧ Fr w5 W [])
  case first =>
    have HALL : Hid (∀ W, Fr w5 W [] → Fr w5 W [] ∧ W.cell? ⟨w.heap.size, 0, none⟩ = some (.string s) ∧ W.cell? ⟨w.heap.size, 1, none⟩ = some (.slice (some a) ps.length c) ∧ W.cell? ⟨w.heap.size + 1, 0, none⟩ = some (.int .i64 b.brk) ∧ W.cell? ⟨w.heap.size + 1, 1, none⟩ = some (.int .i64 b.drag) ∧ W.cell? ⟨w.heap.size + 1, 2, none⟩ = some (.int .i64 b.drv) ∧ W.cell? ⟨w.heap.size + 1 + 1, 0, none⟩ = some (.int .i64 (p : Int)) ∧ W.cell? ⟨w.heap.size + 1 + 1, 1, none⟩ = some (.int .i64 sq) ∧ W.cell? ⟨w.heap.size + 1 + 1, 2, none⟩ = some (.int .i64 (k : Int))) := Lib.hid (fun W hW => ⟨hW, ((F5.out.get 2 rfl).call hW.bl).cell 0, ((F5.out.get 2 rfl).call hW.bl).cell 1, ((F5.out.get 1 rfl).call hW.bl).cell 0, ((F5.out.get 1 rfl).call hW.bl).cell 1, ((F5.out.get 1 rfl).call hW.bl).cell 2, ((F5.out.get 0 rfl).call hW.bl).cell 0, ((F5.out.get 0 rfl).call hW.bl).cell 1, ((F5.out.get 0 rfl).call hW.bl).cell 2⟩)
    have HAC := Lib.hid (Fr.lies HA.out F5.out)
    have F10 : Fr w5 _ [] := Fr.nil w5
    go_region_held3 (fun W => Fr w5 W [] ∧ W.cell? ⟨w.heap.size, 0, none⟩ = some (.string s) ∧ W.cell? ⟨w.heap.size, 1, none⟩ = some (.slice (some a) ps.length c) ∧ W.cell? ⟨w.heap.size + 1, 0, none⟩ = some (.int .i64 b.brk) ∧ W.cell? ⟨w.heap.size + 1, 1, none⟩ = some (.int .i64 b.drag) ∧ W.cell? ⟨w.heap.size + 1, 2, none⟩ = some (.int .i64 b.drv) ∧ W.cell? ⟨w.heap.size + 1 + 1, 0, none⟩ = some (.int .i64 (p : Int)) ∧ W.cell? ⟨w.heap.size + 1 + 1, 1, none⟩ = some (.int .i64 sq) ∧ W.cell? ⟨w.heap.size + 1 + 1, 2, none⟩ = some (.int .i64 (k : Int)))
        ((go_split_ands; refine HALL.out _ ?_; (first | assumption | (repeat (first | assumption | refine Fr.new ?_ _ | refine Fr.drew ?_ | (refine Fr.set ?_ (by first | exact Nat.le_refl _ | omega | (simp; done) | (simp; omega)) (by first | (simp; done) | (simp; omega)) _))); done)))
        ((first
          | (go_at_call 13; go_split_ands; (with_reducible refine (Copy_any s ps ⟨(some a), c⟩ (by omega) HG.out _ (Fr.lies HAC.out (by assumption))).mono ?_); rintro e w1 ⟨g2, rfl, hl2, hk2, hb1⟩; have HL2 := Lib.hid hl2; have F4 := Fr.call (by assumption) hb1; clear hb1 hl2 hk2)
          | (go_at_call 12; go_split_ands; (with_reducible refine (HRT.out _ _ _ HL2.out).mono ?_); rintro e w1 ⟨g3, rfl, hl3, hb1⟩; have HL3 := Lib.hid hl3; have F5 := Fr.call (by assumption) hb1; clear hb1 hl3)
          | fail "arm"))
    all_goals
      go_split_ands
      go_wp2_with fail
      go_meet
      exact ⟨⟨g3, rfl, rfl, HL3.out⟩, by assumption⟩
  case rest =>
    obtain ⟨wx2, rfl⟩ : ∃ W, W = wc := ⟨_, rfl⟩
    obtain ⟨⟨gx5, rfl, rfl, hy5⟩, hx⟩ := hcut
    have FC2 := Lib.hid (F5.out.call hx.bl)
    clear hx F5
    obtain ⟨k0_0, k0_1, kf0, kg0⟩ := (FC2.out.get 2 rfl).two
    have kz0 := (FC2.out.get 2 rfl).lt
    obtain ⟨k1_0, k1_1, k1_2⟩ := (FC2.out.get 1 rfl).three
    have kz1 := (FC2.out.get 1 rfl).lt
    obtain ⟨k2_0, k2_1, k2_2⟩ := (FC2.out.get 0 rfl).three
    have kz2 := (FC2.out.get 0 rfl).lt
    have Y5 := Lib.hid hy5
    clear hy5
    go_wp2_with fail
    refine (Copy_any s ps ⟨(some a), c⟩ (by omega) HG.out _ (Fr.lies HA.out FC2.out)).mono ?_
    rintro e w9 ⟨g9, rfl, hl9, hk9, hb9⟩
    clear k0_0 k0_1 kf0 kg0 kz0 k1_0 k1_1 k1_2 kz1 k2_0 k2_1 k2_2 kz2
    have G9 := Fr.call FC2.out hb9
    have HL := Lib.hid hl9
    have Y5 := Lib.hid (Lies.call Y5.out hb9)
    obtain ⟨k0_0, k0_1, kf0, kg0⟩ := (G9.get 2 rfl).two
    have kz0 := (G9.get 2 rfl).lt
    obtain ⟨k1_0, k1_1, k1_2⟩ := (G9.get 1 rfl).three
    have kz1 := (G9.get 1 rfl).lt
    obtain ⟨k2_0, k2_1, k2_2⟩ := (G9.get 0 rfl).three
    have kz2 := (G9.get 0 rfl).lt
    have F9 : Hid (Fr w _ [(w.heap.size + 1 + 1, 30, #[.int .i64 (p : Int), .int .i64 sq, .int .i64 (k : Int)]), (w.heap.size + 1, 26, #[.int .i64 b.brk, .int .i64 b.drag, .int .i64 b.drv]), (w.heap.size, 24, #[.string s, .slice (some a) ps.length c])]) := Lib.hid G9
    clear hb9 G9 FC2
    clear hl9 hk9
    go_wp2_with fail
    refine (HLI.out _ _ _ HL.out).mono ?_
    rintro e w10 ⟨g6, rfl, hl10, hb10⟩
    clear k0_0 k0_1 kf0 kg0 kz0 k1_0 k1_1 k1_2 kz1 k2_0 k2_1 k2_2 kz2
    have G10 := Fr.call F9.out hb10
    have Y5 := Lib.hid (Lies.call Y5.out hb10)
    have Y6 := Lib.hid hl10
    obtain ⟨k0_0, k0_1, kf0, kg0⟩ := (G10.get 2 rfl).two
    have kz0 := (G10.get 2 rfl).lt
    obtain ⟨k1_0, k1_1, k1_2⟩ := (G10.get 1 rfl).three
    have kz1 := (G10.get 1 rfl).lt
    obtain ⟨k2_0, k2_1, k2_2⟩ := (G10.get 0 rfl).three
    have kz2 := (G10.get 0 rfl).lt
    have F10 : Hid (Fr w _ [(w.heap.size + 1 + 1, 30, #[.int .i64 (p : Int), .int .i64 sq, .int .i64 (k : Int)]), (w.heap.size + 1, 26, #[.int .i64 b.brk, .int .i64 b.drag, .int .i64 b.drv]), (w.heap.size, 24, #[.string s, .slice (some a) ps.length c])]) := Lib.hid G10
    clear hb10 G10 F9
    clear hl10 HL
    go_wp2_with fail
    refine (Copy_any s ps ⟨(some a), c⟩ (by omega) HG.out _ (Fr.lies HA.out F10.out)).mono ?_
    rintro e w11 ⟨g11, rfl, hl11, hk11, hb11⟩
    clear k0_0 k0_1 kf0 kg0 kz0 k1_0 k1_1 k1_2 kz1 k2_0 k2_1 k2_2 kz2
    have G11 := Fr.call F10.out hb11
    have HL := Lib.hid hl11
    have Y5 := Lib.hid (Lies.call Y5.out hb11)
    have Y6 := Lib.hid (Lies.call Y6.out hb11)
    obtain ⟨k0_0, k0_1, kf0, kg0⟩ := (G11.get 2 rfl).two
    have kz0 := (G11.get 2 rfl).lt
    obtain ⟨k1_0, k1_1, k1_2⟩ := (G11.get 1 rfl).three
    have kz1 := (G11.get 1 rfl).lt
    obtain ⟨k2_0, k2_1, k2_2⟩ := (G11.get 0 rfl).three
    have kz2 := (G11.get 0 rfl).lt
    have F11 : Hid (Fr w _ [(w.heap.size + 1 + 1, 30, #[.int .i64 (p : Int), .int .i64 sq, .int .i64 (k : Int)]), (w.heap.size + 1, 26, #[.int .i64 b.brk, .int .i64 b.drag, .int .i64 b.drv]), (w.heap.size, 24, #[.string s, .slice (some a) ps.length c])]) := Lib.hid G11
    clear hb11 G11 F10
    clear hl11 hk11
    go_wp2_with fail
    refine (HPL.out _ _ _ HL.out).mono ?_
    rintro e w12 ⟨g7, rfl, hl12, hb12⟩
    clear k0_0 k0_1 kf0 kg0 kz0 k1_0 k1_1 k1_2 kz1 k2_0 k2_1 k2_2 kz2
    have G12 := Fr.call F11.out hb12
    have Y5 := Lib.hid (Lies.call Y5.out hb12)
    have Y6 := Lib.hid (Lies.call Y6.out hb12)
    have Y7 := Lib.hid hl12
    obtain ⟨k0_0, k0_1, kf0, kg0⟩ := (G12.get 2 rfl).two
    have kz0 := (G12.get 2 rfl).lt
    obtain ⟨k1_0, k1_1, k1_2⟩ := (G12.get 1 rfl).three
    have kz1 := (G12.get 1 rfl).lt
    obtain ⟨k2_0, k2_1, k2_2⟩ := (G12.get 0 rfl).three
    have kz2 := (G12.get 0 rfl).lt
    have F12 : Hid (Fr w _ [(w.heap.size + 1 + 1, 30, #[.int .i64 (p : Int), .int .i64 sq, .int .i64 (k : Int)]), (w.heap.size + 1, 26, #[.int .i64 b.brk, .int .i64 b.drag, .int .i64 b.drv]), (w.heap.size, 24, #[.string s, .slice (some a) ps.length c])]) := Lib.hid G12
    clear hb12 G12 F11
    clear hl12 HL
    obtain ⟨A5, c5⟩ := gx5
    obtain ⟨A6, c6⟩ := g6
    obtain ⟨A7, c7⟩ := g7
    obtain ⟨l5, e5, _, cl5⟩ := Y5.out.num (listF_at (n := N) (f := runV ps b k p sq) (k := 0) (by omega))
    try simp only at e5
    subst e5
    rw [show runV ps b k p sq 0 = sq from rfl] at cl5
    have cl50 := cl5
    simp [Addr.add] at cl50
    
    go_upto_region 10 with fail
    go_cut [126] from 84 to 126 (fun r W => r = .bool false ∧ Fr w12 W [])
    case first =>
      go_quiet (fail)
      go_wp2_with fail
      go_meet
      exact ⟨rfl, (Fr.nil _).call (below_drewN (Below.refl _ _) _)⟩
    case rest =>
      obtain ⟨wl, rfl⟩ : ∃ W, W = wc := ⟨_, rfl⟩
      obtain ⟨rfl, hx⟩ := hcut
      have FL := Lib.hid (F12.out.call hx.bl)
      have Y5 := Lib.hid (Lies.call Y5.out hx.bl)
      have Y6 := Lib.hid (Lies.call Y6.out hx.bl)
      have Y7 := Lib.hid (Lies.call Y7.out hx.bl)
      clear hx F12 cl5 cl50 k0_0 k0_1 kf0 kg0 kz0 k1_0 k1_1 k1_2 kz1 k2_0 k2_1 k2_2 kz2
      go_wp2_with fail
      go_loopw [13] (fun i wr => ∃ t : Nat, t ≤ N ∧ i = .int .i64 (t : Int) ∧ Fr wl wr []) (fun i _ => N + 1 - (intOf i).toNat)
      case atStart => exact ⟨0, Nat.zero_le _, rfl, Fr.nil wl⟩
      case round =>
        obtain ⟨t, ht, rfl, hf⟩ := hrel
        have HF := Lib.hid hf
        have FT := Lib.hid (FL.out.call hf.bl)
        by_cases hlt : t < N
        · have hlt2 : (t : Int) < (N : Int) := by omega
          obtain ⟨k0_0, k0_1, kf0, kg0⟩ := (FT.out.get 2 rfl).two
          have kz0 := (FT.out.get 2 rfl).lt
          obtain ⟨k1_0, k1_1, k1_2⟩ := (FT.out.get 1 rfl).three
          have kz1 := (FT.out.get 1 rfl).lt
          obtain ⟨k2_0, k2_1, k2_2⟩ := (FT.out.get 0 rfl).three
          have kz2 := (FT.out.get 0 rfl).lt
          obtain ⟨j, hj⟩ : ∃ j : Nat, j = p + t := ⟨_, rfl⟩
          have hji : (p : Int) + (t : Int) = (j : Int) := by omega
          have hjM : (j : Int) < (M : Int) := by have := HK.out; have := HME.out; omega
          have hjM2 : j < M := by omega
          have hwj0 := IntWalk.i64_in ((p : Int) + (t : Int)) (by omega)
          have hwj := hwj0.trans hji
          have hwt := IntWalk.i64_in ((t : Int) + 1) (by omega)
          obtain ⟨r, hr⟩ : ∃ r, runV ps b k p sq t = r := ⟨_, rfl⟩
          obtain ⟨lm, hlm⟩ : ∃ lm, limV ps j = lm := ⟨_, rfl⟩
          have hin : inB r 0 lm = true := inB_iff.2 (by have := HIN.out t hlt; rw [hr, ← hj, hlm] at this; exact this)
          have HRJ : Hid (∀ (A' : Option Addr) (c' : Nat) (W : World), Lies W W.heap.size A' (ps.flatMap pc) → Calls Try.prog 17 #[.agg #[.string s, .slice A' ps.length c'], .agg #[.int .i64 b.brk, .int .i64 b.drag, .int .i64 b.drv], .agg #[.int .i64 (j : Int), .int .i64 r], .int .i64 (k : Int)] W fun e w' => e = .returned (.tuple #[.bool true, .int .i64 0]) ∧ Below W.heap.size W w') := Lib.hid (by have := HRE.out t hlt; rw [hr, ← hj] at this; exact this)
          obtain ⟨b5, e5, _, c50⟩ := (Lies.call Y5.out hf.bl).num (listF_at (n := N) (f := runV ps b k p sq) (k := t) hlt)
          obtain ⟨b6, e6, _, c60⟩ := (Lies.call Y6.out hf.bl).num (listF_at (n := M) (f := limV ps) (k := j) hjM2)
          try simp only [Option.some.injEq] at e5
          try simp only at e6
          subst e5
          subst e6
          rw [hr] at c50
          rw [hlm] at c60
          have HJI := Lib.hid hji
          have HJ := Lib.hid hj
          clear hwj hf hji hj
          have HL5 : Hid (∀ W, Fr wl W [] → W.cell? (l5.add t) = some (.int .i64 r)) := Lib.hid (fun W h => by rw [← hr]; exact list_cell (Lies.call Y5.out h.bl) hlt)
          go_upto_region 16 with fail
          rw [HJI.out]
          clear hwj0
          go_cut [147] from 138 to 147 (fun rv W => rv = .bool false ∧ Fr wl W [])
          case first =>
            go_quiet ((go_at_call 16; exact Calls.quiet_of_same ((Within_any _ _ _ _).mono fun _ _ h => ⟨h.1, h.2.symm⟩)))
            go_wp2_with fail
            go_meet
            exact ⟨rfl, HF.out.call (below_drewN (Below.refl _ _) _)⟩
          case rest =>
            obtain ⟨wy, rfl⟩ : ∃ W, W = wc := ⟨_, rfl⟩
            obtain ⟨rfl, hx⟩ := hcut
            have HF := Lib.hid hx
            have FY := Lib.hid (FL.out.call hx.bl)
            have c50 := HL5.out _ hx
            clear hx FT c60 k0_0 k0_1 kf0 kg0 kz0 k1_0 k1_1 k1_2 kz1 k2_0 k2_1 k2_2 kz2
            obtain ⟨k0_0, k0_1, kf0, kg0⟩ := (FY.out.get 2 rfl).two
            have kz0 := (FY.out.get 2 rfl).lt
            obtain ⟨k1_0, k1_1, k1_2⟩ := (FY.out.get 1 rfl).three
            have kz1 := (FY.out.get 1 rfl).lt
            obtain ⟨k2_0, k2_1, k2_2⟩ := (FY.out.get 0 rfl).three
            have kz2 := (FY.out.get 0 rfl).lt
            go_upto_region 18 with fail
            clear k0_0 k0_1 kf0 kg0 kz0 k1_0 k1_1 k1_2 kz1 k2_0 k2_1 k2_2 kz2
            go_cut [15, 16] from 148 to 162 (fun is h W => (is = .bool true ∧ h = .int .i64 0) ∧ Fr wy W [])
            case first =>
              have HALL : Hid (∀ W, Fr wy W [] → Fr wy W [] ∧ W.cell? ⟨w.heap.size, 0, none⟩ = some (.string s) ∧ W.cell? ⟨w.heap.size, 1, none⟩ = some (.slice (some a) ps.length c) ∧ W.cell? ⟨w.heap.size + 1, 0, none⟩ = some (.int .i64 b.brk) ∧ W.cell? ⟨w.heap.size + 1, 1, none⟩ = some (.int .i64 b.drag) ∧ W.cell? ⟨w.heap.size + 1, 2, none⟩ = some (.int .i64 b.drv) ∧ W.cell? ⟨w.heap.size + 1 + 1, 0, none⟩ = some (.int .i64 (p : Int)) ∧ W.cell? ⟨w.heap.size + 1 + 1, 1, none⟩ = some (.int .i64 sq) ∧ W.cell? ⟨w.heap.size + 1 + 1, 2, none⟩ = some (.int .i64 (k : Int)) ∧ W.cell? (l5.add t) = some (.int .i64 r)) := Lib.hid (fun W hW => ⟨hW, ((FY.out.get 2 rfl).call hW.bl).cell 0, ((FY.out.get 2 rfl).call hW.bl).cell 1, ((FY.out.get 1 rfl).call hW.bl).cell 0, ((FY.out.get 1 rfl).call hW.bl).cell 1, ((FY.out.get 1 rfl).call hW.bl).cell 2, ((FY.out.get 0 rfl).call hW.bl).cell 0, ((FY.out.get 0 rfl).call hW.bl).cell 1, ((FY.out.get 0 rfl).call hW.bl).cell 2, HL5.out _ (HF.out.call hW.bl)⟩)
              have HAC := Lib.hid (Fr.lies HA.out FY.out)
              have F10 : Fr wy _ [] := Fr.nil wy
              go_region_held3 (fun W => Fr wy W [] ∧ W.cell? ⟨w.heap.size, 0, none⟩ = some (.string s) ∧ W.cell? ⟨w.heap.size, 1, none⟩ = some (.slice (some a) ps.length c) ∧ W.cell? ⟨w.heap.size + 1, 0, none⟩ = some (.int .i64 b.brk) ∧ W.cell? ⟨w.heap.size + 1, 1, none⟩ = some (.int .i64 b.drag) ∧ W.cell? ⟨w.heap.size + 1, 2, none⟩ = some (.int .i64 b.drv) ∧ W.cell? ⟨w.heap.size + 1 + 1, 0, none⟩ = some (.int .i64 (p : Int)) ∧ W.cell? ⟨w.heap.size + 1 + 1, 1, none⟩ = some (.int .i64 sq) ∧ W.cell? ⟨w.heap.size + 1 + 1, 2, none⟩ = some (.int .i64 (k : Int)) ∧ W.cell? (l5.add t) = some (.int .i64 r))
                  ((go_split_ands; refine HALL.out _ ?_; (first | assumption | (repeat (first | assumption | refine Fr.new ?_ _ | refine Fr.drew ?_ | (refine Fr.set ?_ (by first | exact Nat.le_refl _ | omega | (simp; done) | (simp; omega)) (by first | (simp; done) | (simp; omega)) _))); done)))
                  ((first
                    | (go_at_call 13; go_split_ands; (with_reducible refine (Copy_any s ps ⟨(some a), c⟩ (by omega) HG.out _ (Fr.lies HAC.out (by assumption))).mono ?_); rintro e w1 ⟨g2, rfl, hl2, hk2, hb1⟩; have HL2 := Lib.hid hl2; have F4 := Fr.call (by assumption) hb1; clear hb1 hl2 hk2)
                    | (go_at_call 17; go_split_ands; (with_reducible refine (HRJ.out _ _ _ HL2.out).mono ?_); rintro e w1 ⟨rfl, hb1⟩; have F5 := Fr.call (by assumption) hb1; clear hb1)
                    | fail "arm"))
              all_goals
                go_split_ands
                go_wp2_with fail
                go_meet
                exact ⟨⟨rfl, rfl⟩, by assumption⟩
            case rest =>
              obtain ⟨wx3, rfl⟩ : ∃ W, W = wc := ⟨_, rfl⟩
              obtain ⟨⟨rfl, rfl⟩, hx⟩ := hcut
              have FC3 := Lib.hid (FY.out.call hx.bl)
              have HF := Lib.hid (HF.out.call hx.bl)
              clear hx FY c50
              obtain ⟨k0_0, k0_1, kf0, kg0⟩ := (FC3.out.get 2 rfl).two
              have kz0 := (FC3.out.get 2 rfl).lt
              obtain ⟨k1_0, k1_1, k1_2⟩ := (FC3.out.get 1 rfl).three
              have kz1 := (FC3.out.get 1 rfl).lt
              obtain ⟨k2_0, k2_1, k2_2⟩ := (FC3.out.get 0 rfl).three
              have kz2 := (FC3.out.get 0 rfl).lt
              by_cases ht0 : t = 0
              · subst ht0
                go_wp2_with fail
                go_roundw
                case rel => exact ⟨0 + 1, by omega, rfl, HF.out⟩
                case measure => simp [intOf] <;> omega
              · obtain ⟨u, hu⟩ : ∃ u : Nat, t = u + 1 := ⟨t - 1, by omega⟩
                have hj := HJ.out
                obtain ⟨m, hm⟩ : ∃ m : Nat, j = m + 1 := ⟨j - 1, by omega⟩
                have hmp : m = p + u := by omega
                have hmn : m < ps.length := by have := HK.out; omega
                have hne : ¬ ((t : Int) = 0) := by omega
                have hne2 : ((t : Int) == 0) = false := by simpa using ht0
                have hwu := (IntWalk.i64_in ((t : Int) - 1) (by omega)).trans (show (t : Int) - 1 = (u : Int) by omega)
                have hwm := (IntWalk.i64_in ((j : Int) - 1) (by omega)).trans (show (j : Int) - 1 = (m : Int) by omega)
                have hmi : (m : Int) < (ps.length : Int) := by omega
                have huN : (u : Int) < (N : Int) := by omega
                have HC4 : wx3.cell? (l5.add u) = some (.int .i64 (runV ps b k p sq u)) := list_cell (Lies.call Y5.out HF.out.bl) (by omega)
                have hd1 := HDR.out u
                have hd2 := HBR.out u (by omega)
                have hin1 := HIN.out u (by omega)
                have hin2 := HIN.out t hlt
                have hlb1 := (limV_bound HOK.out.each (p + u)).2
                have hlb2 := (limV_bound HOK.out.each (p + t)).2
                obtain ⟨a2, ea, _, c0, c1, c2, c3⟩ := (Fr.lies HA.out FC3.out).piece (gp_at (i := m) hmn)
                simp only [Option.some.injEq] at ea
                subst ea
                have hpo := okP_iff.1 (gp_ok HOK.out.each m)
                rw [← hu, ← hmp, hr] at hd1 hd2
                rw [hr] at hin2
                obtain ⟨q, hq⟩ : ∃ q, runV ps b k p sq u = q := ⟨_, rfl⟩
                rw [hq] at HC4 hd1 hd2 hin1
                have HLQ : Hid (∀ W, Fr wl W [] → W.cell? (l5.add u) = some (.int .i64 q)) := Lib.hid (fun W h => by rw [← hq]; exact list_cell (Lies.call Y5.out h.bl) (by omega))
                clear HC4
                obtain ⟨⟨pl, pg, pm, pv0⟩, hP⟩ : ∃ P, gp ps m = P := ⟨_, rfl⟩
                rw [hP] at c0 c1 c2 c3 hpo hd1 hd2
                simp only at c0 c1 c2 c3 hpo hd1 hd2
                obtain ⟨⟨pl0, pl1⟩, ⟨pg0, pg1⟩, _, _⟩ := hpo
                obtain ⟨sb0, sb1, _, _, sv0, sv1, _⟩ := HB.out
                have hx1 := mulB5 (x := 2 * (b.drv - 10 * pg)) (y := pl) (A := 10000) (B := 10000000) (by omega) (by omega)
                have hx2 := mulB5 (x := 2 * (b.brk + 10 * pg)) (y := pl) (A := 10000) (B := 10000000) (by omega) (by omega)
                obtain ⟨m1, hm1⟩ : ∃ m1, 2 * (b.drv - 10 * pg) * pl = m1 := ⟨_, rfl⟩
                obtain ⟨m2, hm2⟩ : ∃ m2, 2 * (b.brk + 10 * pg) * pl = m2 := ⟨_, rfl⟩
                have hwp1 := (IntWalk.i64_in (2 * (b.drv - 10 * pg) * pl) (by omega)).trans hm1
                have hwp2 := (IntWalk.i64_in (2 * (b.brk + 10 * pg) * pl) (by omega)).trans hm2
                rw [hm1] at hd1 hx1
                rw [hm2] at hd2 hx2
                have hw1 := IntWalk.i64_in (q + m1) (by omega)
                have hw2 := IntWalk.i64_in (q - m2) (by omega)
                have hw3 := IntWalk.i64_in (10 * pg) (by omega)
                have hw4 := IntWalk.i64_in (b.drv - 10 * pg) (by omega)
                have hw5 := IntWalk.i64_in (2 * (b.drv - 10 * pg)) (by omega)
                have hw6 := IntWalk.i64_in (b.brk + 10 * pg) (by omega)
                have hw7 := IntWalk.i64_in (2 * (b.brk + 10 * pg)) (by omega)
                have hg1 : decide (q + m1 < r) = false := decide_eq_false (by omega)
                have hg2 : decide (r < q - m2) = false := decide_eq_false (by omega)
                clear hd1 hd2 hin1 hin2 hlb1 hlb2 hx1 hx2 hm1 hm2 hr hq hP hu hm hmp hj hlm hin
                go_upto_region 22 with fail
                go_cut [17] from 171 to 176 (fun pv W => ∃ g : Nat, pv = .pointer (some ⟨g, 0, none⟩) ∧ Fr wl W [(g, 46, #[.int .i64 pl, .int .i64 pg, .int .i64 pm, .bool pv0])])
                case first =>
                  go_wp2_with fail
                  go_meet
                  exact ⟨_, rfl, HF.out.box _ _⟩
                case rest =>
                obtain ⟨wz, rfl⟩ : ∃ W, W = wc := ⟨_, rfl⟩
                obtain ⟨gz, rfl, hx⟩ := hcut
                have HZ := Lib.hid hx
                have FZ := Lib.hid (FL.out.call hx.bl)
                have HC5 := HL5.out _ (HZ.out.tail)
                have HC4 : wz.cell? (l5.add u) = some (.int .i64 q) := HLQ.out _ HZ.out.tail
                have p0 := HZ.out.top.cell 0
                have p1 := HZ.out.top.cell 1
                have pz := HZ.out.top.lt
                clear hx FC3 c0 c1 c2 c3 k0_0 k0_1 kf0 kg0 kz0 k1_0 k1_1 k1_2 kz1 k2_0 k2_1 k2_2 kz2
                obtain ⟨k0_0, k0_1, kf0, kg0⟩ := (FZ.out.get 2 rfl).two
                have kz0 := (FZ.out.get 2 rfl).lt
                obtain ⟨k1_0, k1_1, k1_2⟩ := (FZ.out.get 1 rfl).three
                have kz1 := (FZ.out.get 1 rfl).lt
                obtain ⟨k2_0, k2_1, k2_2⟩ := (FZ.out.get 0 rfl).three
                have kz2 := (FZ.out.get 0 rfl).lt
                go_upto_region 23 with fail
                go_cut [220] from 177 to 220 (fun rv W => rv = .bool false ∧ Fr wl W [])
                case first =>
                  go_quiet (fail)
                  go_wp2_with fail
                  go_meet
                  exact ⟨rfl, HZ.out.tail.call (below_drewN (Below.refl _ _) _)⟩
                case rest =>
                obtain ⟨wz2, rfl⟩ : ∃ W, W = wc := ⟨_, rfl⟩
                obtain ⟨rfl, hx⟩ := hcut
                have HF2 := Lib.hid hx
                clear hx
                go_wp2_with fail
                go_roundw
                case rel => exact ⟨t + 1, by omega, rfl, HF2.out⟩
                case measure => simp [intOf] <;> omega
        · have hge : ¬ ((t : Int) < (N : Int)) := by omega
          have htN : t = N := by omega
          obtain ⟨e, he⟩ : ∃ e : Nat, e = k - p := ⟨_, rfl⟩
          have heN : e < N := by have := HNE.out; omega
          have hwe := (IntWalk.i64_in ((N : Int) - 1) (by omega)).trans (show (N : Int) - 1 = (e : Int) by have := HNE.out; omega)
          have hei : (e : Int) < (N : Int) := by omega
          have hki : (k : Int) < (ps.length : Int) := by have := HK.out; omega
          obtain ⟨z, hz⟩ : ∃ z, runV ps b k p sq (k - p) = z := ⟨_, rfl⟩
          have hz2 : runV ps b k p sq e = z := by rw [he]; exact hz
          rw [hz] at HSA HLA
          have HLZ : Hid (∀ W, Fr wr W [] → W.cell? (l5.add e) = some (.int .i64 z)) := Lib.hid (fun W h => by rw [← hz2]; exact list_cell (Lies.call Y5.out (HF.out.call h.bl).bl) heN)
          have hce := HLZ.out _ (Fr.nil wr)
          clear hf htN he hz hz2
          obtain ⟨k0_0, k0_1, kf0, kg0⟩ := (FT.out.get 2 rfl).two
          have kz0 := (FT.out.get 2 rfl).lt
          obtain ⟨k1_0, k1_1, k1_2⟩ := (FT.out.get 1 rfl).three
          have kz1 := (FT.out.get 1 rfl).lt
          obtain ⟨k2_0, k2_1, k2_2⟩ := (FT.out.get 0 rfl).three
          have kz2 := (FT.out.get 0 rfl).lt
          go_upto_region 25 with fail
          clear k0_0 k0_1 kf0 kg0 kz0 k1_0 k1_1 k1_2 kz1 k2_0 k2_1 k2_2 kz2 hce
          go_cut [18, 19] from 221 to 236 (fun pv ev W => ∃ (g : Nat) (lo hi er : Int), pv = .pointer (some ⟨g, 0, none⟩) ∧ ev = .int .i64 er ∧ (0 < b.brk + 10 * (gp ps k).grad → er = 0 ∧ plcV ps k ≤ lo ∧ lo ≤ hi ∧ hi ≤ plcV ps (k + 1)) ∧ Fr wr W [(g, 48, #[.int .i64 lo, .int .i64 hi])])
          case first =>
            refine wp_abs ?_
            intro w5 h5
            have HALL : Hid (∀ W, Fr wr W [] → Fr wr W [] ∧ W.cell? ⟨w.heap.size, 0, none⟩ = some (.string s) ∧ W.cell? ⟨w.heap.size, 1, none⟩ = some (.slice (some a) ps.length c) ∧ W.cell? ⟨w.heap.size + 1, 0, none⟩ = some (.int .i64 b.brk) ∧ W.cell? ⟨w.heap.size + 1, 1, none⟩ = some (.int .i64 b.drag) ∧ W.cell? ⟨w.heap.size + 1, 2, none⟩ = some (.int .i64 b.drv) ∧ W.cell? ⟨w.heap.size + 1 + 1, 0, none⟩ = some (.int .i64 (p : Int)) ∧ W.cell? ⟨w.heap.size + 1 + 1, 1, none⟩ = some (.int .i64 sq) ∧ W.cell? ⟨w.heap.size + 1 + 1, 2, none⟩ = some (.int .i64 (k : Int)) ∧ W.cell? (l5.add e) = some (.int .i64 z)) := Lib.hid (fun W hW => ⟨hW, ((FT.out.get 2 rfl).call hW.bl).cell 0, ((FT.out.get 2 rfl).call hW.bl).cell 1, ((FT.out.get 1 rfl).call hW.bl).cell 0, ((FT.out.get 1 rfl).call hW.bl).cell 1, ((FT.out.get 1 rfl).call hW.bl).cell 2, ((FT.out.get 0 rfl).call hW.bl).cell 0, ((FT.out.get 0 rfl).call hW.bl).cell 1, ((FT.out.get 0 rfl).call hW.bl).cell 2, HLZ.out _ hW⟩)
            have HAC := Lib.hid (Fr.lies HA.out FT.out)
            have F10 : Fr wr w5 [] := by subst h5; exact Fr.nil _
            clear h5
            refine Tw_start 18 (fun W => Fr wr W [] ∧ W.cell? ⟨w.heap.size, 0, none⟩ = some (.string s) ∧ W.cell? ⟨w.heap.size, 1, none⟩ = some (.slice (some a) ps.length c) ∧ W.cell? ⟨w.heap.size + 1, 0, none⟩ = some (.int .i64 b.brk) ∧ W.cell? ⟨w.heap.size + 1, 1, none⟩ = some (.int .i64 b.drag) ∧ W.cell? ⟨w.heap.size + 1, 2, none⟩ = some (.int .i64 b.drv) ∧ W.cell? ⟨w.heap.size + 1 + 1, 0, none⟩ = some (.int .i64 (p : Int)) ∧ W.cell? ⟨w.heap.size + 1 + 1, 1, none⟩ = some (.int .i64 sq) ∧ W.cell? ⟨w.heap.size + 1 + 1, 2, none⟩ = some (.int .i64 (k : Int)) ∧ W.cell? (l5.add e) = some (.int .i64 z)) (by kernel_rfl) (by kernel_rfl) rfl ?_ ?_
            · (try dsimp only)
              ((go_split_ands; refine HALL.out _ ?_; (first | assumption | (repeat (first | assumption | refine Fr.new ?_ _ | refine Fr.drew ?_ | (refine Fr.set ?_ (by first | exact Nat.le_refl _ | omega | (simp; done) | (simp; omega)) (by first | (simp; done) | (simp; omega)) _))); done)))
            refine Tw_takeL (i := 0) (v := ?tv1) rfl (by kernel_rfl) (by decide) (by kernel_rfl) (by kernel_rfl) (fun _ _ _ h => h) (by rfl) ?ty1 ?tn1
            case ty1 => (intro w hSw; (try dsimp only at hSw); go_simp <;> with_reducible rfl)
            (try simp only [Act.put, List.setIfInBounds_toArray, List.set_cons_zero, List.set_cons_succ])
            refine Tw_takeL (i := 2) (v := ?tv2) rfl (by kernel_rfl) (by decide) (by kernel_rfl) (by kernel_rfl) (fun _ _ _ h => h) (by rfl) ?ty2 ?tn2
            case ty2 => (intro w hSw; (try dsimp only at hSw); go_simp <;> with_reducible rfl)
            (try simp only [Act.put, List.setIfInBounds_toArray, List.set_cons_zero, List.set_cons_succ])
            refine Tw_takeL (i := 3) (v := ?tv3) rfl (by kernel_rfl) (by decide) (by kernel_rfl) (by kernel_rfl) (fun _ _ _ h => h) (by rfl) ?ty3 ?tn3
            case ty3 => (intro w hSw; (try dsimp only at hSw); go_simp <;> with_reducible rfl)
            (try simp only [Act.put, List.setIfInBounds_toArray, List.set_cons_zero, List.set_cons_succ])
            refine Tw_takeL (i := 5) (v := ?tv4) rfl (by kernel_rfl) (by decide) (by kernel_rfl) (by kernel_rfl) (fun _ _ _ h => h) (by rfl) ?ty4 ?tn4
            case ty4 => (intro w hSw; (try dsimp only at hSw); go_simp <;> with_reducible rfl)
            (try simp only [Act.put, List.setIfInBounds_toArray, List.set_cons_zero, List.set_cons_succ])
            refine Tw_takeL (i := 6) (v := ?tv5) rfl (by kernel_rfl) (by decide) (by kernel_rfl) (by kernel_rfl) (fun _ _ _ h => h) (by rfl) ?ty5 ?tn5
            case ty5 => (intro w hSw; (try dsimp only at hSw); go_simp <;> with_reducible rfl)
            (try simp only [Act.put, List.setIfInBounds_toArray, List.set_cons_zero, List.set_cons_succ])
            refine Tw_takeL (i := 4) (v := ?tv6) rfl (by kernel_rfl) (by decide) (by kernel_rfl) (by kernel_rfl) (fun _ _ _ h => h) (by rfl) ?ty6 ?tn6
            case ty6 => (intro w hSw; (try dsimp only at hSw); go_simp <;> with_reducible rfl)
            (try simp only [Act.put, List.setIfInBounds_toArray, List.set_cons_zero, List.set_cons_succ])
            refine Tw_takeL (i := 7) (v := ?tv7) rfl (by kernel_rfl) (by decide) (by kernel_rfl) (by kernel_rfl) (fun _ _ _ h => h) (by rfl) ?ty7 ?tn7
            case ty7 => (intro w hSw; (try dsimp only at hSw); go_simp <;> with_reducible rfl)
            (try simp only [Act.put, List.setIfInBounds_toArray, List.set_cons_zero, List.set_cons_succ])
            refine Tw_takeL (i := 8) (v := ?tv8) rfl (by kernel_rfl) (by decide) (by kernel_rfl) (by kernel_rfl) (fun _ _ _ h => h) (by rfl) ?ty8 ?tn8
            case ty8 => (intro w hSw; (try dsimp only at hSw); go_simp <;> with_reducible rfl)
            (try simp only [Act.put, List.setIfInBounds_toArray, List.set_cons_zero, List.set_cons_succ])
            refine Tw_takeL (i := 9) (v := ?tv9) rfl (by kernel_rfl) (by decide) (by kernel_rfl) (by kernel_rfl) (fun _ _ _ h => h) (by rfl) ?ty9 ?tn9
            case ty9 => (intro w hSw; (try dsimp only at hSw); go_simp <;> with_reducible rfl)
            (try simp only [Act.put, List.setIfInBounds_toArray, List.set_cons_zero, List.set_cons_succ])
            refine Tw_takeL (i := 10) (v := ?tv10) rfl (by kernel_rfl) (by decide) (by kernel_rfl) (by kernel_rfl) (fun _ _ _ h => h) (by rfl) ?ty10 ?tn10
            case ty10 => (intro w hSw; (try dsimp only at hSw); go_simp <;> with_reducible rfl)
            (try simp only [Act.put, List.setIfInBounds_toArray, List.set_cons_zero, List.set_cons_succ])
            refine Tw_takeL (i := 11) (v := ?tv11) rfl (by kernel_rfl) (by decide) (by kernel_rfl) (by kernel_rfl) (fun _ _ _ h => h) (by rfl) ?ty11 ?tn11
            case ty11 => (intro w hSw; (try dsimp only at hSw); go_simp <;> with_reducible rfl)
            (try simp only [Act.put, List.setIfInBounds_toArray, List.set_cons_zero, List.set_cons_succ])
            refine Tw_all (rs := [1, 16]) (by kernel_rfl) (by simp) (by decide) (fun hHeld => ?_)
            refine AllT.consL rfl (fun K hK => ?_) (AllT.consL rfl (fun K hK => ?_) (AllT.nil))
            · go_simp
              (go_at_call 13; go_split_ands; (with_reducible refine (Copy_any s ps ⟨(some a), c⟩ (by omega) HG.out _ (Fr.lies HAC.out (by assumption))).mono ?_); rintro e w7 ⟨g2, rfl, hl2, hk2, hb7⟩; have L2 := Lib.hid hl2; have F4 := Fr.call (by assumption) hb7; (first | (have N1 := Lib.hid (Bk.call N1.out hb7)) | skip); clear hb7 hl2 hk2)
              refine hK.out _ _ ?_ ?_
              · (try dsimp only)
                ((go_split_ands; refine HALL.out _ ?_; (first | assumption | (repeat (first | assumption | refine Fr.new ?_ _ | refine Fr.drew ?_ | (refine Fr.set ?_ (by first | exact Nat.le_refl _ | omega | (simp; done) | (simp; omega)) (by first | (simp; done) | (simp; omega)) _))); done)))
              clear hK K
              (try simp only [Act.put, List.setIfInBounds_toArray, List.set_cons_zero, List.set_cons_succ])
              refine Tw_all (rs := [12, 16]) (by kernel_rfl) (by simp) (by decide) (fun hHeld => ?_)
              refine AllT.consL rfl (fun K hK => ?_) (AllT.consL rfl (fun K hK => ?_) (AllT.nil))
              · go_simp
                (go_at_call 18; go_split_ands; (with_reducible refine (HSA.out _ _ _ L2.out).mono ?_); rintro e w7 ⟨lo, hi, er, rfl, hsa, hb7⟩; have HS := Lib.hid hsa; clear hsa; have F4 := Fr.call (by assumption) hb7; (first | (have N1 := Lib.hid (Bk.call N1.out hb7)) | skip); clear hb7)
                refine hK.out _ _ ?_ ?_
                · (try dsimp only)
                  ((go_split_ands; refine HALL.out _ ?_; (first | assumption | (repeat (first | assumption | refine Fr.new ?_ _ | refine Fr.drew ?_ | (refine Fr.set ?_ (by first | exact Nat.le_refl _ | omega | (simp; done) | (simp; omega)) (by first | (simp; done) | (simp; omega)) _))); done)))
                clear hK K
                (try simp only [Act.put, List.setIfInBounds_toArray, List.set_cons_zero, List.set_cons_succ])
                refine Tw_takeL (i := 13) (v := ?tv12) rfl (by kernel_rfl) (by decide) (by kernel_rfl) (by kernel_rfl) (fun _ _ _ h => h) (by rfl) ?ty12 ?tn12
                case ty12 => (intro w hSw; (try dsimp only at hSw); go_simp <;> with_reducible rfl)
                (try simp only [Act.put, List.setIfInBounds_toArray, List.set_cons_zero, List.set_cons_succ])
                refine Tw_takeL (i := 14) (v := ?tv13) rfl (by kernel_rfl) (by decide) (by kernel_rfl) (by kernel_rfl) (fun _ _ _ h => h) (by rfl) ?ty13 ?tn13
                case ty13 => (intro w hSw; (try dsimp only at hSw); go_simp <;> with_reducible rfl)
                (try simp only [Act.put, List.setIfInBounds_toArray, List.set_cons_zero, List.set_cons_succ])
                refine Tw_takeL (i := 15) (v := ?tv14) rfl (by kernel_rfl) (by decide) (by kernel_rfl) (by kernel_rfl) (fun _ _ _ h => h) (by rfl) ?ty14 ?tn14
                case ty14 => (intro w hSw; (try dsimp only at hSw); go_simp <;> with_reducible rfl)
                (try simp only [Act.put, List.setIfInBounds_toArray, List.set_cons_zero, List.set_cons_succ])
                refine Tw_all (rs := [16]) (by kernel_rfl) (by simp) (by decide) (fun hHeld => ?_)
                refine AllT.consL rfl (fun K hK => ?_) (AllT.nil)
                · go_simp
                  refine hK.out _ _ ?_ ?_
                  · (try dsimp only)
                    ((go_split_ands; refine HALL.out _ ?_; (first | assumption | (repeat (first | assumption | refine Fr.new ?_ _ | refine Fr.drew ?_ | (refine Fr.set ?_ (by first | exact Nat.le_refl _ | omega | (simp; done) | (simp; omega)) (by first | (simp; done) | (simp; omega)) _))); done)))
                  clear hK K
                  (try simp only [Act.put, List.setIfInBounds_toArray, List.set_cons_zero, List.set_cons_succ])
                  refine Tw_abs ?_
                  intro wA3 hA3
                  (first | (have N1 := Lib.hid (Bk.of_alloc hA3)) | (have N1 := Lib.hid (Bk.of_alloc_drew hA3)))
                  have zg := Lib.hid (show wr.heap.size ≤ _ from hHeld.1.size)
                  (first | (have L2 := Lib.hid (Lies.alloc hA3 L2.out)) | (have L2 := Lib.hid (Lies.alloc_drew hA3 L2.out)) | skip)
                  clear hA3
                  refine Tw_all (rs := [17]) (by kernel_rfl) (by simp) (by decide) (fun hHeld => ?_)
                  refine AllT.consL rfl (fun K hK => ?_) (AllT.nil)
                  · have c0 := N1.out.cell 0
                    have c1 := N1.out.cell 1
                    have f0 := N1.out.frozen 0
                    have f1 := N1.out.frozen 1
                    have zN := N1.out.lt
                    go_simp
                    refine hK.out _ _ ?_ ?_
                    · exact HALL.out _ ((hHeld.1.set (p := ⟨_, 0, none⟩) zg.out (fun b hb => by simp at hb) _).set (p := ⟨_, 1, none⟩) zg.out (fun b hb => by simp at hb) _)
                    clear hK K c0 f0 c1 f1 zN
                    have N1 := Lib.hid (Bk.set2 N1.out (.int .i64 lo) (.int .i64 hi))
                    (try simp only [Act.put, List.setIfInBounds_toArray, List.set_cons_zero, List.set_cons_succ])
                    refine Tw_end (by kernel_rfl) (fun hh => ?_)
                    obtain ⟨F11, _⟩ := hh
                    clear HALL
                    go_wp2_with fail
                    go_meet
                    exact ⟨_, lo, hi, er, rfl, rfl, HS.out, F11.more N1.out⟩
              · go_simp
                refine hK.out _ _ ?_ ?_
                · (try dsimp only)
                  ((go_split_ands; refine HALL.out _ ?_; (first | assumption | (repeat (first | assumption | refine Fr.new ?_ _ | refine Fr.drew ?_ | (refine Fr.set ?_ (by first | exact Nat.le_refl _ | omega | (simp; done) | (simp; omega)) (by first | (simp; done) | (simp; omega)) _))); done)))
                clear hK K
                (try simp only [Act.put, List.setIfInBounds_toArray, List.set_cons_zero, List.set_cons_succ])
                refine Tw_abs ?_
                intro wA5 hA5
                (first | (have N1 := Lib.hid (Bk.of_alloc hA5)) | (have N1 := Lib.hid (Bk.of_alloc_drew hA5)))
                have zg := Lib.hid (show wr.heap.size ≤ _ from hHeld.1.size)
                (first | (have L2 := Lib.hid (Lies.alloc hA5 L2.out)) | (have L2 := Lib.hid (Lies.alloc_drew hA5 L2.out)) | skip)
                clear hA5
                refine Tw_all (rs := [12]) (by kernel_rfl) (by simp) (by decide) (fun hHeld => ?_)
                refine AllT.consL rfl (fun K hK => ?_) (AllT.nil)
                · go_simp
                  (go_at_call 18; go_split_ands; (with_reducible refine (HSA.out _ _ _ L2.out).mono ?_); rintro e w7 ⟨lo, hi, er, rfl, hsa, hb7⟩; have HS := Lib.hid hsa; clear hsa; have F4 := Fr.call (by assumption) hb7; (first | (have N1 := Lib.hid (Bk.call N1.out hb7)) | skip); clear hb7)
                  refine hK.out _ _ ?_ ?_
                  · (try dsimp only)
                    ((go_split_ands; refine HALL.out _ ?_; (first | assumption | (repeat (first | assumption | refine Fr.new ?_ _ | refine Fr.drew ?_ | (refine Fr.set ?_ (by first | exact Nat.le_refl _ | omega | (simp; done) | (simp; omega)) (by first | (simp; done) | (simp; omega)) _))); done)))
                  clear hK K
                  (try simp only [Act.put, List.setIfInBounds_toArray, List.set_cons_zero, List.set_cons_succ])
                  refine Tw_takeL (i := 13) (v := ?tv15) rfl (by kernel_rfl) (by decide) (by kernel_rfl) (by kernel_rfl) (fun _ _ _ h => h) (by rfl) ?ty15 ?tn15
                  case ty15 => (intro w hSw; (try dsimp only at hSw); go_simp <;> with_reducible rfl)
                  (try simp only [Act.put, List.setIfInBounds_toArray, List.set_cons_zero, List.set_cons_succ])
                  refine Tw_takeL (i := 14) (v := ?tv16) rfl (by kernel_rfl) (by decide) (by kernel_rfl) (by kernel_rfl) (fun _ _ _ h => h) (by rfl) ?ty16 ?tn16
                  case ty16 => (intro w hSw; (try dsimp only at hSw); go_simp <;> with_reducible rfl)
                  (try simp only [Act.put, List.setIfInBounds_toArray, List.set_cons_zero, List.set_cons_succ])
                  refine Tw_takeL (i := 15) (v := ?tv17) rfl (by kernel_rfl) (by decide) (by kernel_rfl) (by kernel_rfl) (fun _ _ _ h => h) (by rfl) ?ty17 ?tn17
                  case ty17 => (intro w hSw; (try dsimp only at hSw); go_simp <;> with_reducible rfl)
                  (try simp only [Act.put, List.setIfInBounds_toArray, List.set_cons_zero, List.set_cons_succ])
                  refine Tw_all (rs := [17]) (by kernel_rfl) (by simp) (by decide) (fun hHeld => ?_)
                  refine AllT.consL rfl (fun K hK => ?_) (AllT.nil)
                  · have c0 := N1.out.cell 0
                    have c1 := N1.out.cell 1
                    have f0 := N1.out.frozen 0
                    have f1 := N1.out.frozen 1
                    have zN := N1.out.lt
                    go_simp
                    refine hK.out _ _ ?_ ?_
                    · exact HALL.out _ ((hHeld.1.set (p := ⟨_, 0, none⟩) zg.out (fun b hb => by simp at hb) _).set (p := ⟨_, 1, none⟩) zg.out (fun b hb => by simp at hb) _)
                    clear hK K c0 f0 c1 f1 zN
                    have N1 := Lib.hid (Bk.set2 N1.out (.int .i64 lo) (.int .i64 hi))
                    (try simp only [Act.put, List.setIfInBounds_toArray, List.set_cons_zero, List.set_cons_succ])
                    refine Tw_end (by kernel_rfl) (fun hh => ?_)
                    obtain ⟨F11, _⟩ := hh
                    clear HALL
                    go_wp2_with fail
                    go_meet
                    exact ⟨_, lo, hi, er, rfl, rfl, HS.out, F11.more N1.out⟩
            · go_simp
              refine hK.out _ _ ?_ ?_
              · (try dsimp only)
                ((go_split_ands; refine HALL.out _ ?_; (first | assumption | (repeat (first | assumption | refine Fr.new ?_ _ | refine Fr.drew ?_ | (refine Fr.set ?_ (by first | exact Nat.le_refl _ | omega | (simp; done) | (simp; omega)) (by first | (simp; done) | (simp; omega)) _))); done)))
              clear hK K
              (try simp only [Act.put, List.setIfInBounds_toArray, List.set_cons_zero, List.set_cons_succ])
              refine Tw_abs ?_
              intro wA8 hA8
              (first | (have N1 := Lib.hid (Bk.of_alloc hA8)) | (have N1 := Lib.hid (Bk.of_alloc_drew hA8)))
              have zg := Lib.hid (show wr.heap.size ≤ _ from hHeld.1.size)
              (first | (have L2 := Lib.hid (Lies.alloc hA8 L2.out)) | (have L2 := Lib.hid (Lies.alloc_drew hA8 L2.out)) | skip)
              clear hA8
              refine Tw_all (rs := [1]) (by kernel_rfl) (by simp) (by decide) (fun hHeld => ?_)
              refine AllT.consL rfl (fun K hK => ?_) (AllT.nil)
              · go_simp
                (go_at_call 13; go_split_ands; (with_reducible refine (Copy_any s ps ⟨(some a), c⟩ (by omega) HG.out _ (Fr.lies HAC.out (by assumption))).mono ?_); rintro e w7 ⟨g2, rfl, hl2, hk2, hb7⟩; have L2 := Lib.hid hl2; have F4 := Fr.call (by assumption) hb7; (first | (have N1 := Lib.hid (Bk.call N1.out hb7)) | skip); clear hb7 hl2 hk2)
                refine hK.out _ _ ?_ ?_
                · (try dsimp only)
                  ((go_split_ands; refine HALL.out _ ?_; (first | assumption | (repeat (first | assumption | refine Fr.new ?_ _ | refine Fr.drew ?_ | (refine Fr.set ?_ (by first | exact Nat.le_refl _ | omega | (simp; done) | (simp; omega)) (by first | (simp; done) | (simp; omega)) _))); done)))
                clear hK K
                (try simp only [Act.put, List.setIfInBounds_toArray, List.set_cons_zero, List.set_cons_succ])
                refine Tw_all (rs := [12]) (by kernel_rfl) (by simp) (by decide) (fun hHeld => ?_)
                refine AllT.consL rfl (fun K hK => ?_) (AllT.nil)
                · go_simp
                  (go_at_call 18; go_split_ands; (with_reducible refine (HSA.out _ _ _ L2.out).mono ?_); rintro e w7 ⟨lo, hi, er, rfl, hsa, hb7⟩; have HS := Lib.hid hsa; clear hsa; have F4 := Fr.call (by assumption) hb7; (first | (have N1 := Lib.hid (Bk.call N1.out hb7)) | skip); clear hb7)
                  refine hK.out _ _ ?_ ?_
                  · (try dsimp only)
                    ((go_split_ands; refine HALL.out _ ?_; (first | assumption | (repeat (first | assumption | refine Fr.new ?_ _ | refine Fr.drew ?_ | (refine Fr.set ?_ (by first | exact Nat.le_refl _ | omega | (simp; done) | (simp; omega)) (by first | (simp; done) | (simp; omega)) _))); done)))
                  clear hK K
                  (try simp only [Act.put, List.setIfInBounds_toArray, List.set_cons_zero, List.set_cons_succ])
                  refine Tw_takeL (i := 13) (v := ?tv18) rfl (by kernel_rfl) (by decide) (by kernel_rfl) (by kernel_rfl) (fun _ _ _ h => h) (by rfl) ?ty18 ?tn18
                  case ty18 => (intro w hSw; (try dsimp only at hSw); go_simp <;> with_reducible rfl)
                  (try simp only [Act.put, List.setIfInBounds_toArray, List.set_cons_zero, List.set_cons_succ])
                  refine Tw_takeL (i := 14) (v := ?tv19) rfl (by kernel_rfl) (by decide) (by kernel_rfl) (by kernel_rfl) (fun _ _ _ h => h) (by rfl) ?ty19 ?tn19
                  case ty19 => (intro w hSw; (try dsimp only at hSw); go_simp <;> with_reducible rfl)
                  (try simp only [Act.put, List.setIfInBounds_toArray, List.set_cons_zero, List.set_cons_succ])
                  refine Tw_takeL (i := 15) (v := ?tv20) rfl (by kernel_rfl) (by decide) (by kernel_rfl) (by kernel_rfl) (fun _ _ _ h => h) (by rfl) ?ty20 ?tn20
                  case ty20 => (intro w hSw; (try dsimp only at hSw); go_simp <;> with_reducible rfl)
                  (try simp only [Act.put, List.setIfInBounds_toArray, List.set_cons_zero, List.set_cons_succ])
                  refine Tw_all (rs := [17]) (by kernel_rfl) (by simp) (by decide) (fun hHeld => ?_)
                  refine AllT.consL rfl (fun K hK => ?_) (AllT.nil)
                  · have c0 := N1.out.cell 0
                    have c1 := N1.out.cell 1
                    have f0 := N1.out.frozen 0
                    have f1 := N1.out.frozen 1
                    have zN := N1.out.lt
                    go_simp
                    refine hK.out _ _ ?_ ?_
                    · exact HALL.out _ ((hHeld.1.set (p := ⟨_, 0, none⟩) zg.out (fun b hb => by simp at hb) _).set (p := ⟨_, 1, none⟩) zg.out (fun b hb => by simp at hb) _)
                    clear hK K c0 f0 c1 f1 zN
                    have N1 := Lib.hid (Bk.set2 N1.out (.int .i64 lo) (.int .i64 hi))
                    (try simp only [Act.put, List.setIfInBounds_toArray, List.set_cons_zero, List.set_cons_succ])
                    refine Tw_end (by kernel_rfl) (fun hh => ?_)
                    obtain ⟨F11, _⟩ := hh
                    clear HALL
                    go_wp2_with fail
                    go_meet
                    exact ⟨_, lo, hi, er, rfl, rfl, HS.out, F11.more N1.out⟩
          case rest =>
            obtain ⟨wb1, rfl⟩ : ∃ W, W = wc := ⟨_, rfl⟩
            obtain ⟨gr, lo, hi, er, rfl, rfl, hsa, hx⟩ := hcut
            have FB1 := Lib.hid (FT.out.call hx.bl)
            have HF := Lib.hid (HF.out.call hx.bl)
            have HX1 := Lib.hid hx
            clear hx FT
            obtain ⟨k0_0, k0_1, kf0, kg0⟩ := (FB1.out.get 2 rfl).two
            have kz0 := (FB1.out.get 2 rfl).lt
            obtain ⟨k1_0, k1_1, k1_2⟩ := (FB1.out.get 1 rfl).three
            have kz1 := (FB1.out.get 1 rfl).lt
            obtain ⟨k2_0, k2_1, k2_2⟩ := (FB1.out.get 0 rfl).three
            have kz2 := (FB1.out.get 0 rfl).lt
            obtain ⟨a2, ea, _, c0, c1, c2, c3⟩ := (Fr.lies HA.out FB1.out).piece (gp_at (i := k) HK.out)
            simp only [Option.some.injEq] at ea
            subst ea
            have hpo := okP_iff.1 (gp_ok HOK.out.each k)
            obtain ⟨gd, hgd⟩ : ∃ gd, (gp ps k).grad = gd := ⟨_, rfl⟩
            rw [hgd] at c1 hsa HLA hpo
            obtain ⟨_, ⟨pg0, pg1⟩, _, _⟩ := hpo
            obtain ⟨sb0, sb1, _, _, _, _, _⟩ := HB.out
            have hw3 := IntWalk.i64_in (10 * gd) (by omega)
            have hw6 := IntWalk.i64_in (b.brk + 10 * gd) (by omega)
            have HSX := Lib.hid hsa
            clear hsa hgd c0 c2 c3
            go_upto_region 26 with fail
            go_cut [248] from 237 to 248 (fun rv W => rv = .bool (decide (b.brk + 10 * gd ≤ 0)) ∧ Fr wb1 W [])
            case first =>
              go_quiet (fail)
              go_wp2_with fail
              go_meet
              exact ⟨rfl, (Fr.nil _).call (below_drewN (Below.refl _ _) _)⟩
            case rest =>
            obtain ⟨wy, rfl⟩ : ∃ W, W = wc := ⟨_, rfl⟩
            obtain ⟨rfl, hx⟩ := hcut
            have FE := Lib.hid (FB1.out.call hx.bl)
            have HE := Lib.hid (HX1.out.call hx.bl)
            have hce := HLZ.out _ HE.out.tail
            have HF := Lib.hid (HF.out.call hx.bl)
            clear hx c1 k0_0 k0_1 kf0 kg0 kz0 k1_0 k1_1 k1_2 kz1 k2_0 k2_1 k2_2 kz2
            obtain ⟨k0_0, k0_1, kf0, kg0⟩ := (FE.out.get 2 rfl).two
            have kz0 := (FE.out.get 2 rfl).lt
            obtain ⟨k1_0, k1_1, k1_2⟩ := (FE.out.get 1 rfl).three
            have kz1 := (FE.out.get 1 rfl).lt
            obtain ⟨k2_0, k2_1, k2_2⟩ := (FE.out.get 0 rfl).three
            have kz2 := (FE.out.get 0 rfl).lt
            by_cases hdec : b.brk + 10 * gd ≤ 0
            · have hz0 : z = 0 := HLA.out hdec
              subst hz0
              rw [decide_eq_true hdec]
              go_wp2_with fail
              go_ret
              exact ⟨rfl, FE.out.bl⟩
            · obtain ⟨rfl, s1, s2, s3⟩ := HSX.out (by omega)
              rw [decide_eq_false hdec]
              have hkM2 : k < M := by have := HME.out; have := HK.out; omega
              have hkM3 : k + 1 < M := by have := HME.out; have := HK.out; omega
              have hkM : (k : Int) < (M : Int) := by omega
              obtain ⟨k1, hk1⟩ : ∃ k1 : Nat, k1 = k + 1 := ⟨_, rfl⟩
              rw [← hk1] at hkM3 s3
              have hkM1 : (k1 : Int) < (M : Int) := by omega
              have hwk2 := (IntWalk.i64_in ((k : Int) + 1) (by omega)).trans (show (k : Int) + 1 = (k1 : Int) by omega)
              obtain ⟨l7, e7, _, x7⟩ := (Lies.call Y7.out HF.out.bl).num (listF_at (n := M) (f := plcV ps) (k := k) hkM2)
              obtain ⟨l8, e8, _, x8⟩ := (Lies.call Y7.out HF.out.bl).num (listF_at (n := M) (f := plcV ps) (k := k1) hkM3)
              try simp only at e7 e8
              subst e7
              simp only [Option.some.injEq] at e8
              subst e8
              obtain ⟨u0, hu0⟩ : ∃ u0, plcV ps k = u0 := ⟨_, rfl⟩
              obtain ⟨u1, hu1⟩ : ∃ u1, plcV ps k1 = u1 := ⟨_, rfl⟩
              rw [hu0] at x7 s1
              rw [hu1] at x8 s3
              have hd1 : decide (u0 ≤ lo) = true := decide_eq_true s1
              have hd2 : decide (lo ≤ hi) = true := decide_eq_true s2
              have hd3 : decide (hi ≤ u1) = true := decide_eq_true s3
              have r0 := HE.out.top.cell 0
              have r1 := HE.out.top.cell 1
              clear hu0 hu1 s1 s3 hk1
              go_upto_region 28 with fail
              go_quiet (fail)
              go_wp2_with fail
              go_ret
              exact ⟨rfl, (FE.out.call (below_drewN (Below.refl _ _) _)).bl⟩

set_option maxHeartbeats 8000000 in
set_option maxRecDepth 100000 in
theorem BrakeWhereLeft_any (s : ByteArray) (hs : s.size ≤ maxLen) (ps : List Bp) (A : Option Addr) (c : Nat) (hg : HdOk ⟨A, c⟩) (hl : ps.length ≤ maxLen) (b : Bs) (p sq stop : Int) (w : World) (hA : Lies w w.heap.size A (ps.flatMap pc)) : Calls Try.prog 3 #[.agg #[.string s, .slice A ps.length c], .agg #[.int .i64 b.brk, .int .i64 b.drag, .int .i64 b.drv], .agg #[.int .i64 p, .int .i64 sq, .int .i64 stop]] w fun e w' => e = .returned (.bool true) ∧ Below w.heap.size w w' := by
  cases hsh : shortB s ps with
  | false => exact wl_long s hs ps A c hg hl b p sq stop hsh w hA
  | true =>
    by_cases h0 : bothE s ps b = 0
    · by_cases h1 : stateE ps p sq = 0
      · by_cases h2 : stopE ps stop = 0
        · by_cases h3 : stop < p
          · exact wl_bad3 s hs ps A c hg hl b p sq stop hsh h0 h1 h2 h3 w hA
          · obtain ⟨k, rfl, _⟩ := stopE_ok h2
            obtain ⟨q, rfl, _⟩ := stateE_ok h1
            by_cases h4 : runE ps b k q sq = 0
            · exact wl_ok s hs ps A c hg hl b q k sq hsh h0 h1 h2 (by omega) h4 w hA
            · exact wl_err s hs ps A c hg hl b q k sq hsh h0 h1 h2 (by omega) _ rfl h4 w hA
        · exact wl_bad2 s hs ps A c hg hl b p sq stop hsh _ h2 h0 h1 rfl w hA
      · exact wl_bad1 s hs ps A c hg hl b p sq stop hsh _ h1 h0 rfl w hA
    · exact wl_bad0 s hs ps A c hg hl b p sq stop hsh _ h0 rfl w hA
end Go.Proofs.Ytbicmbnhlnmdfaa
