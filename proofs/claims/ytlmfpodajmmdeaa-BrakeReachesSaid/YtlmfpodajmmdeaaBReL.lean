
/-
  The walk of BrakeReaches.
-/
import Derived.Test.YtlmfpodajmmdeaaBKit
import Derived.Test.YtlmfpodajmmdeaaBRf2
import Derived.Test.YtlmfpodajmmdeaaBRnB
import Derived.Test.YtlmfpodajmmdeaaBRnC
import Derived.Test.YtlmfpodajmmdeaaBRnD
namespace Go.Proofs.Ytlmfpodajmmdeaa
open Go.RowKit

/-- A slice of as many numbers as there are, and an error. -/
theorem rowE_n {w w' : World} {N : Nat} {f : Nat → Int} {er : Int} {e : Ending} (h : RowE w (listF N f) er e w') : ∃ g : Hd, e = .returned (.tuple #[.slice g.A (if er = 0 then N else 0 : Nat) g.c, .int .i64 er]) ∧ Lies w' w'.heap.size g.A (ic (listF (if er = 0 then N else 0) f)) ∧ Below w.heap.size w w' := by
  obtain ⟨g, rfl, hL, hb⟩ := h
  refine ⟨g, by rw [listF_len], ?_, hb⟩
  by_cases h0 : er = 0
  · rw [if_pos h0]; exact hL h0
  · rw [if_neg h0]; exact Lies.nil
theorem orderE_ok {p stop : Int} (h : orderE p stop = 0) : p ≤ stop := by
  unfold orderE at h
  split at h
  · cases h
  · omega

set_option maxHeartbeats 8000000 in
set_option maxRecDepth 100000 in
theorem reaches_long (s : ByteArray) (hs : s.size ≤ maxLen) (ps : List Bp) (A : Option Addr) (c : Nat) (hg : HdOk ⟨A, c⟩) (hl : ps.length ≤ maxLen) (b : Bs) (p sq stop : Int) (hsh : shortB s ps = false) (w : World) (hA : Lies w w.heap.size A (ps.flatMap pc)) : Calls Try.prog 5 #[.agg #[.string s, .slice A ps.length c], .agg #[.int .i64 b.brk, .int .i64 b.drag, .int .i64 b.drv], .agg #[.int .i64 p, .int .i64 sq, .int .i64 stop]] w fun e w' => e = .returned (.bool true) ∧ Below w.heap.size w w' := by
  have F0 := Lib.hid (Fr.b3 w 24 #[.string s, .slice A ps.length c] 26 #[.int .i64 b.brk, .int .i64 b.drag, .int .i64 b.drv] 51 #[.int .i64 p, .int .i64 sq, .int .i64 stop])
  have HA := Lib.hid hA
  have HG := Lib.hid hg
  clear hA hg
  have HSH := Lib.hid hsh
  clear hsh
  go_enter Try.func5, Try.ntmps5
  go_wp2_with fail
  refine (awake_any _).mono ?_
  rintro e w1 ⟨rfl, hb1⟩
  have G1 := Fr.call F0.out hb1
  obtain ⟨k0_0, k0_1, kf0, kg0⟩ := (G1.get 2 rfl).two
  have kz0 := (G1.get 2 rfl).lt
  obtain ⟨k1_0, k1_1, k1_2⟩ := (G1.get 1 rfl).three
  have kz1 := (G1.get 1 rfl).lt
  obtain ⟨k2_0, k2_1, k2_2⟩ := (G1.get 0 rfl).three
  have kz2 := (G1.get 0 rfl).lt
  have F1 : Hid (Fr w _ [(w.heap.size + 1 + 1, 51, #[.int .i64 p, .int .i64 sq, .int .i64 stop]), (w.heap.size + 1, 26, #[.int .i64 b.brk, .int .i64 b.drag, .int .i64 b.drv]), (w.heap.size, 24, #[.string s, .slice A ps.length c])]) := Lib.hid G1
  clear hb1 G1 F0
  go_wp2_with fail
  refine (Short_any s hs ps A c hl _).mono ?_
  rintro e w2 ⟨rfl, hb2⟩
  rw [HSH.out]
  clear k0_0 k0_1 kf0 kg0 kz0 k1_0 k1_1 k1_2 kz1 k2_0 k2_1 k2_2 kz2
  have G2 := Fr.call F1.out hb2
  obtain ⟨k0_0, k0_1, kf0, kg0⟩ := (G2.get 2 rfl).two
  have kz0 := (G2.get 2 rfl).lt
  obtain ⟨k1_0, k1_1, k1_2⟩ := (G2.get 1 rfl).three
  have kz1 := (G2.get 1 rfl).lt
  obtain ⟨k2_0, k2_1, k2_2⟩ := (G2.get 0 rfl).three
  have kz2 := (G2.get 0 rfl).lt
  have F2 : Hid (Fr w _ [(w.heap.size + 1 + 1, 51, #[.int .i64 p, .int .i64 sq, .int .i64 stop]), (w.heap.size + 1, 26, #[.int .i64 b.brk, .int .i64 b.drag, .int .i64 b.drv]), (w.heap.size, 24, #[.string s, .slice A ps.length c])]) := Lib.hid G2
  clear hb2 G2 F1
  go_wp2_with fail
  go_ret
  exact ⟨rfl, F2.out.bl⟩

set_option maxHeartbeats 8000000 in
set_option maxRecDepth 100000 in
theorem reaches_bad0 (s : ByteArray) (hs : s.size ≤ maxLen) (ps : List Bp) (A : Option Addr) (c : Nat) (hg : HdOk ⟨A, c⟩) (hl : ps.length ≤ maxLen) (b : Bs) (p sq stop : Int) (hsh : shortB s ps = true) (er : Int) (hr : er ≠ 0) (hb0 : bothE s ps b = er) (w : World) (hA : Lies w w.heap.size A (ps.flatMap pc)) : Calls Try.prog 5 #[.agg #[.string s, .slice A ps.length c], .agg #[.int .i64 b.brk, .int .i64 b.drag, .int .i64 b.drv], .agg #[.int .i64 p, .int .i64 sq, .int .i64 stop]] w fun e w' => e = .returned (.bool true) ∧ Below w.heap.size w w' := by
  have F0 := Lib.hid (Fr.b3 w 24 #[.string s, .slice A ps.length c] 26 #[.int .i64 b.brk, .int .i64 b.drag, .int .i64 b.drv] 51 #[.int .i64 p, .int .i64 sq, .int .i64 stop])
  have HA := Lib.hid hA
  have HG := Lib.hid hg
  clear hA hg
  have HSH := Lib.hid hsh
  have hl14 : ps.length ≤ 14 := (short_iff.1 hsh).2
  clear hsh
  have hnz : nz ((trE s ps).2 :: sE b :: [stateE ps p sq, stopE ps stop, orderE p stop]) = er := by rw [bothE_nz, if_neg (by rw [hb0]; exact hr), hb0]
  have HRE : Hid (∀ (A' : Option Addr) (c' : Nat) (W : World), Lies W W.heap.size A' (ps.flatMap pc) → Calls Try.prog 25 #[.agg #[.string s, .slice A' ps.length c'], .agg #[.int .i64 b.brk, .int .i64 b.drag, .int .i64 b.drv], .agg #[.int .i64 p, .int .i64 sq], .int .i64 stop] W fun e w' => e = .returned (.tuple #[.bool false, .int .i64 er]) ∧ Below W.heap.size W w') := Lib.hid (fun A' c' W h => Reaches_bad s hs ps A' c' (by omega) b p sq stop er hnz hr W h)
  have HRT : Hid (∀ (A' : Option Addr) (c' : Nat) (W : World), Lies W W.heap.size A' (ps.flatMap pc) → Calls Try.prog 26 #[.agg #[.string s, .slice A' ps.length c'], .agg #[.int .i64 b.brk, .int .i64 b.drag, .int .i64 b.drv], .agg #[.int .i64 p, .int .i64 sq], .int .i64 stop] W fun e w' => ∃ g : Hd, e = .returned (.tuple #[.slice g.A 0 g.c, .int .i64 er]) ∧ Below W.heap.size W w') := Lib.hid (fun A' c' W h => (RunTo_bad s hs ps A' c' (by omega) b p sq stop er hnz hr W h).mono fun _ _ h => rowE_bad hr h)
  have HE := Lib.hid hb0
  have ge : (er == 0) = false := by simp [hr]
  have gn : (er != 0) = true := by simp [hr]
  clear hb0 hr hnz
  go_enter Try.func5, Try.ntmps5
  go_wp2_with fail
  refine (awake_any _).mono ?_
  rintro e w1 ⟨rfl, hb1⟩
  have G1 := Fr.call F0.out hb1
  obtain ⟨k0_0, k0_1, kf0, kg0⟩ := (G1.get 2 rfl).two
  have kz0 := (G1.get 2 rfl).lt
  obtain ⟨k1_0, k1_1, k1_2⟩ := (G1.get 1 rfl).three
  have kz1 := (G1.get 1 rfl).lt
  obtain ⟨k2_0, k2_1, k2_2⟩ := (G1.get 0 rfl).three
  have kz2 := (G1.get 0 rfl).lt
  have F1 : Hid (Fr w _ [(w.heap.size + 1 + 1, 51, #[.int .i64 p, .int .i64 sq, .int .i64 stop]), (w.heap.size + 1, 26, #[.int .i64 b.brk, .int .i64 b.drag, .int .i64 b.drv]), (w.heap.size, 24, #[.string s, .slice A ps.length c])]) := Lib.hid G1
  clear hb1 G1 F0
  go_wp2_with fail
  refine (Short_any s hs ps A c hl _).mono ?_
  rintro e w2 ⟨rfl, hb2⟩
  rw [HSH.out]
  clear k0_0 k0_1 kf0 kg0 kz0 k1_0 k1_1 k1_2 kz1 k2_0 k2_1 k2_2 kz2
  have G2 := Fr.call F1.out hb2
  obtain ⟨k0_0, k0_1, kf0, kg0⟩ := (G2.get 2 rfl).two
  have kz0 := (G2.get 2 rfl).lt
  obtain ⟨k1_0, k1_1, k1_2⟩ := (G2.get 1 rfl).three
  have kz1 := (G2.get 1 rfl).lt
  obtain ⟨k2_0, k2_1, k2_2⟩ := (G2.get 0 rfl).three
  have kz2 := (G2.get 0 rfl).lt
  have F2 : Hid (Fr w _ [(w.heap.size + 1 + 1, 51, #[.int .i64 p, .int .i64 sq, .int .i64 stop]), (w.heap.size + 1, 26, #[.int .i64 b.brk, .int .i64 b.drag, .int .i64 b.drv]), (w.heap.size, 24, #[.string s, .slice A ps.length c])]) := Lib.hid G2
  clear hb2 G2 F1
  go_upto_region 5 with fail
  clear k0_0 k0_1 kf0 kg0 kz0 k1_0 k1_1 k1_2 kz1 k2_0 k2_1 k2_2 kz2
  go_cut [7, 8] from 19 to 29 (fun r e W => (r = .bool false ∧ e = .int .i64 er) ∧ Fr w2 W [])
  case first =>
    have HALL : Hid (∀ W, Fr w2 W [] → Fr w2 W [] ∧ W.cell? ⟨w.heap.size, 0, none⟩ = some (.string s) ∧ W.cell? ⟨w.heap.size, 1, none⟩ = some (.slice A ps.length c) ∧ W.cell? ⟨w.heap.size + 1, 0, none⟩ = some (.int .i64 b.brk) ∧ W.cell? ⟨w.heap.size + 1, 1, none⟩ = some (.int .i64 b.drag) ∧ W.cell? ⟨w.heap.size + 1, 2, none⟩ = some (.int .i64 b.drv) ∧ W.cell? ⟨w.heap.size + 1 + 1, 0, none⟩ = some (.int .i64 p) ∧ W.cell? ⟨w.heap.size + 1 + 1, 1, none⟩ = some (.int .i64 sq) ∧ W.cell? ⟨w.heap.size + 1 + 1, 2, none⟩ = some (.int .i64 stop)) := Lib.hid (fun W hW => ⟨hW, ((F2.out.get 2 rfl).call hW.bl).cell 0, ((F2.out.get 2 rfl).call hW.bl).cell 1, ((F2.out.get 1 rfl).call hW.bl).cell 0, ((F2.out.get 1 rfl).call hW.bl).cell 1, ((F2.out.get 1 rfl).call hW.bl).cell 2, ((F2.out.get 0 rfl).call hW.bl).cell 0, ((F2.out.get 0 rfl).call hW.bl).cell 1, ((F2.out.get 0 rfl).call hW.bl).cell 2⟩)
    have HAC := Lib.hid (Fr.lies HA.out F2.out)
    have F10 : Fr w2 _ [] := Fr.nil w2
    go_region_held3 (fun W => Fr w2 W [] ∧ W.cell? ⟨w.heap.size, 0, none⟩ = some (.string s) ∧ W.cell? ⟨w.heap.size, 1, none⟩ = some (.slice A ps.length c) ∧ W.cell? ⟨w.heap.size + 1, 0, none⟩ = some (.int .i64 b.brk) ∧ W.cell? ⟨w.heap.size + 1, 1, none⟩ = some (.int .i64 b.drag) ∧ W.cell? ⟨w.heap.size + 1, 2, none⟩ = some (.int .i64 b.drv) ∧ W.cell? ⟨w.heap.size + 1 + 1, 0, none⟩ = some (.int .i64 p) ∧ W.cell? ⟨w.heap.size + 1 + 1, 1, none⟩ = some (.int .i64 sq) ∧ W.cell? ⟨w.heap.size + 1 + 1, 2, none⟩ = some (.int .i64 stop))
        ((go_split_ands; refine HALL.out _ ?_; (first | assumption | (repeat (first | assumption | refine Fr.new ?_ _ | refine Fr.drew ?_ | (refine Fr.set ?_ (by first | exact Nat.le_refl _ | omega | (simp; done) | (simp; omega)) (by first | (simp; done) | (simp; omega)) _))); done)))
        ((first
          | (go_at_call 10; go_split_ands; (with_reducible refine (Copy_any s ps ⟨A, c⟩ (by omega) HG.out _ (Fr.lies HAC.out (by assumption))).mono ?_); rintro e w1 ⟨g2, rfl, hl2, hk2, hb1⟩; have HL2 := Lib.hid hl2; have F4 := Fr.call (by assumption) hb1; clear hb1 hl2 hk2)
          | (go_at_call 25; go_split_ands; (with_reducible refine (HRE.out _ _ _ HL2.out).mono ?_); rintro e w1 ⟨rfl, hb1⟩; have F5 := Fr.call (by assumption) hb1; clear hb1)
          | fail "arm"))
    all_goals
      go_split_ands
      go_wp2_with fail
      go_meet
      exact ⟨⟨rfl, rfl⟩, by assumption⟩
  case rest =>
    obtain ⟨wx1, rfl⟩ : ∃ W, W = wc := ⟨_, rfl⟩
    obtain ⟨⟨rfl, rfl⟩, hx⟩ := hcut
    have FC1 := Lib.hid (F2.out.call hx.bl)
    clear hx F2
    obtain ⟨k0_0, k0_1, kf0, kg0⟩ := (FC1.out.get 2 rfl).two
    have kz0 := (FC1.out.get 2 rfl).lt
    obtain ⟨k1_0, k1_1, k1_2⟩ := (FC1.out.get 1 rfl).three
    have kz1 := (FC1.out.get 1 rfl).lt
    obtain ⟨k2_0, k2_1, k2_2⟩ := (FC1.out.get 0 rfl).three
    have kz2 := (FC1.out.get 0 rfl).lt
    go_upto_region 6 with fail
    clear k0_0 k0_1 kf0 kg0 kz0 k1_0 k1_1 k1_2 kz1 k2_0 k2_1 k2_2 kz2
    go_cut [9, 10] from 30 to 40 (fun r e W => (∃ g : Hd, r = .slice g.A 0 g.c ∧ e = .int .i64 er) ∧ Fr wx1 W [])
    case first =>
      have HALL : Hid (∀ W, Fr wx1 W [] → Fr wx1 W [] ∧ W.cell? ⟨w.heap.size, 0, none⟩ = some (.string s) ∧ W.cell? ⟨w.heap.size, 1, none⟩ = some (.slice A ps.length c) ∧ W.cell? ⟨w.heap.size + 1, 0, none⟩ = some (.int .i64 b.brk) ∧ W.cell? ⟨w.heap.size + 1, 1, none⟩ = some (.int .i64 b.drag) ∧ W.cell? ⟨w.heap.size + 1, 2, none⟩ = some (.int .i64 b.drv) ∧ W.cell? ⟨w.heap.size + 1 + 1, 0, none⟩ = some (.int .i64 p) ∧ W.cell? ⟨w.heap.size + 1 + 1, 1, none⟩ = some (.int .i64 sq) ∧ W.cell? ⟨w.heap.size + 1 + 1, 2, none⟩ = some (.int .i64 stop)) := Lib.hid (fun W hW => ⟨hW, ((FC1.out.get 2 rfl).call hW.bl).cell 0, ((FC1.out.get 2 rfl).call hW.bl).cell 1, ((FC1.out.get 1 rfl).call hW.bl).cell 0, ((FC1.out.get 1 rfl).call hW.bl).cell 1, ((FC1.out.get 1 rfl).call hW.bl).cell 2, ((FC1.out.get 0 rfl).call hW.bl).cell 0, ((FC1.out.get 0 rfl).call hW.bl).cell 1, ((FC1.out.get 0 rfl).call hW.bl).cell 2⟩)
      have HAC := Lib.hid (Fr.lies HA.out FC1.out)
      have F10 : Fr wx1 _ [] := Fr.nil wx1
      go_region_held3 (fun W => Fr wx1 W [] ∧ W.cell? ⟨w.heap.size, 0, none⟩ = some (.string s) ∧ W.cell? ⟨w.heap.size, 1, none⟩ = some (.slice A ps.length c) ∧ W.cell? ⟨w.heap.size + 1, 0, none⟩ = some (.int .i64 b.brk) ∧ W.cell? ⟨w.heap.size + 1, 1, none⟩ = some (.int .i64 b.drag) ∧ W.cell? ⟨w.heap.size + 1, 2, none⟩ = some (.int .i64 b.drv) ∧ W.cell? ⟨w.heap.size + 1 + 1, 0, none⟩ = some (.int .i64 p) ∧ W.cell? ⟨w.heap.size + 1 + 1, 1, none⟩ = some (.int .i64 sq) ∧ W.cell? ⟨w.heap.size + 1 + 1, 2, none⟩ = some (.int .i64 stop))
          ((go_split_ands; refine HALL.out _ ?_; (first | assumption | (repeat (first | assumption | refine Fr.new ?_ _ | refine Fr.drew ?_ | (refine Fr.set ?_ (by first | exact Nat.le_refl _ | omega | (simp; done) | (simp; omega)) (by first | (simp; done) | (simp; omega)) _))); done)))
          ((first
            | (go_at_call 10; go_split_ands; (with_reducible refine (Copy_any s ps ⟨A, c⟩ (by omega) HG.out _ (Fr.lies HAC.out (by assumption))).mono ?_); rintro e w1 ⟨g2, rfl, hl2, hk2, hb1⟩; have HL2 := Lib.hid hl2; have F4 := Fr.call (by assumption) hb1; clear hb1 hl2 hk2)
            | (go_at_call 26; go_split_ands; (with_reducible refine (HRT.out _ _ _ HL2.out).mono ?_); rintro e w1 ⟨g3, rfl, hb1⟩; have F5 := Fr.call (by assumption) hb1; clear hb1)
            | fail "arm"))
      all_goals
        go_split_ands
        go_wp2_with fail
        go_meet
        exact ⟨⟨g3, rfl, rfl⟩, by assumption⟩
    case rest =>
      obtain ⟨wx2, rfl⟩ : ∃ W, W = wc := ⟨_, rfl⟩
      obtain ⟨⟨gx, rfl, rfl⟩, hx⟩ := hcut
      have FC2 := Lib.hid (FC1.out.call hx.bl)
      clear hx FC1
      obtain ⟨k0_0, k0_1, kf0, kg0⟩ := (FC2.out.get 2 rfl).two
      have kz0 := (FC2.out.get 2 rfl).lt
      obtain ⟨k1_0, k1_1, k1_2⟩ := (FC2.out.get 1 rfl).three
      have kz1 := (FC2.out.get 1 rfl).lt
      obtain ⟨k2_0, k2_1, k2_2⟩ := (FC2.out.get 0 rfl).three
      have kz2 := (FC2.out.get 0 rfl).lt
      go_wp2_with fail
      refine (BothErr_any s hs ps A c hl b _ (Fr.lies HA.out FC2.out)).mono ?_
      rintro e w3 ⟨rfl, hb3⟩
      rw [HE.out]
      clear k0_0 k0_1 kf0 kg0 kz0 k1_0 k1_1 k1_2 kz1 k2_0 k2_1 k2_2 kz2
      have G3 := Fr.call FC2.out hb3
      obtain ⟨k0_0, k0_1, kf0, kg0⟩ := (G3.get 2 rfl).two
      have kz0 := (G3.get 2 rfl).lt
      obtain ⟨k1_0, k1_1, k1_2⟩ := (G3.get 1 rfl).three
      have kz1 := (G3.get 1 rfl).lt
      obtain ⟨k2_0, k2_1, k2_2⟩ := (G3.get 0 rfl).three
      have kz2 := (G3.get 0 rfl).lt
      have F3 : Hid (Fr w _ [(w.heap.size + 1 + 1, 51, #[.int .i64 p, .int .i64 sq, .int .i64 stop]), (w.heap.size + 1, 26, #[.int .i64 b.brk, .int .i64 b.drag, .int .i64 b.drv]), (w.heap.size, 24, #[.string s, .slice A ps.length c])]) := Lib.hid G3
      clear hb3 G3 FC2
      go_wp2_with fail
      go_ret
      exact ⟨rfl, F3.out.bl⟩

set_option maxHeartbeats 8000000 in
set_option maxRecDepth 100000 in
theorem reaches_bad1 (s : ByteArray) (hs : s.size ≤ maxLen) (ps : List Bp) (A : Option Addr) (c : Nat) (hg : HdOk ⟨A, c⟩) (hl : ps.length ≤ maxLen) (b : Bs) (p sq stop : Int) (hsh : shortB s ps = true) (er : Int) (hr : er ≠ 0) (h0 : bothE s ps b = 0) (hb0 : stateE ps p sq = er) (w : World) (hA : Lies w w.heap.size A (ps.flatMap pc)) : Calls Try.prog 5 #[.agg #[.string s, .slice A ps.length c], .agg #[.int .i64 b.brk, .int .i64 b.drag, .int .i64 b.drv], .agg #[.int .i64 p, .int .i64 sq, .int .i64 stop]] w fun e w' => e = .returned (.bool true) ∧ Below w.heap.size w w' := by
  have F0 := Lib.hid (Fr.b3 w 24 #[.string s, .slice A ps.length c] 26 #[.int .i64 b.brk, .int .i64 b.drag, .int .i64 b.drv] 51 #[.int .i64 p, .int .i64 sq, .int .i64 stop])
  have HA := Lib.hid hA
  have HG := Lib.hid hg
  clear hA hg
  have HSH := Lib.hid hsh
  have hl14 : ps.length ≤ 14 := (short_iff.1 hsh).2
  clear hsh
  have hnz : nz ((trE s ps).2 :: sE b :: [stateE ps p sq, stopE ps stop, orderE p stop]) = er := by rw [bothE_nz, if_pos h0, hb0]; simp [nz, hr]
  have HRE : Hid (∀ (A' : Option Addr) (c' : Nat) (W : World), Lies W W.heap.size A' (ps.flatMap pc) → Calls Try.prog 25 #[.agg #[.string s, .slice A' ps.length c'], .agg #[.int .i64 b.brk, .int .i64 b.drag, .int .i64 b.drv], .agg #[.int .i64 p, .int .i64 sq], .int .i64 stop] W fun e w' => e = .returned (.tuple #[.bool false, .int .i64 er]) ∧ Below W.heap.size W w') := Lib.hid (fun A' c' W h => Reaches_bad s hs ps A' c' (by omega) b p sq stop er hnz hr W h)
  have HRT : Hid (∀ (A' : Option Addr) (c' : Nat) (W : World), Lies W W.heap.size A' (ps.flatMap pc) → Calls Try.prog 26 #[.agg #[.string s, .slice A' ps.length c'], .agg #[.int .i64 b.brk, .int .i64 b.drag, .int .i64 b.drv], .agg #[.int .i64 p, .int .i64 sq], .int .i64 stop] W fun e w' => ∃ g : Hd, e = .returned (.tuple #[.slice g.A 0 g.c, .int .i64 er]) ∧ Below W.heap.size W w') := Lib.hid (fun A' c' W h => (RunTo_bad s hs ps A' c' (by omega) b p sq stop er hnz hr W h).mono fun _ _ h => rowE_bad hr h)
  have HE := Lib.hid hb0
  have H0 := Lib.hid h0
  have ge : (er == 0) = false := by simp [hr]
  have gn : (er != 0) = true := by simp [hr]
  clear hb0 hr hnz h0
  go_enter Try.func5, Try.ntmps5
  go_wp2_with fail
  refine (awake_any _).mono ?_
  rintro e w1 ⟨rfl, hb1⟩
  have G1 := Fr.call F0.out hb1
  obtain ⟨k0_0, k0_1, kf0, kg0⟩ := (G1.get 2 rfl).two
  have kz0 := (G1.get 2 rfl).lt
  obtain ⟨k1_0, k1_1, k1_2⟩ := (G1.get 1 rfl).three
  have kz1 := (G1.get 1 rfl).lt
  obtain ⟨k2_0, k2_1, k2_2⟩ := (G1.get 0 rfl).three
  have kz2 := (G1.get 0 rfl).lt
  have F1 : Hid (Fr w _ [(w.heap.size + 1 + 1, 51, #[.int .i64 p, .int .i64 sq, .int .i64 stop]), (w.heap.size + 1, 26, #[.int .i64 b.brk, .int .i64 b.drag, .int .i64 b.drv]), (w.heap.size, 24, #[.string s, .slice A ps.length c])]) := Lib.hid G1
  clear hb1 G1 F0
  go_wp2_with fail
  refine (Short_any s hs ps A c hl _).mono ?_
  rintro e w2 ⟨rfl, hb2⟩
  rw [HSH.out]
  clear k0_0 k0_1 kf0 kg0 kz0 k1_0 k1_1 k1_2 kz1 k2_0 k2_1 k2_2 kz2
  have G2 := Fr.call F1.out hb2
  obtain ⟨k0_0, k0_1, kf0, kg0⟩ := (G2.get 2 rfl).two
  have kz0 := (G2.get 2 rfl).lt
  obtain ⟨k1_0, k1_1, k1_2⟩ := (G2.get 1 rfl).three
  have kz1 := (G2.get 1 rfl).lt
  obtain ⟨k2_0, k2_1, k2_2⟩ := (G2.get 0 rfl).three
  have kz2 := (G2.get 0 rfl).lt
  have F2 : Hid (Fr w _ [(w.heap.size + 1 + 1, 51, #[.int .i64 p, .int .i64 sq, .int .i64 stop]), (w.heap.size + 1, 26, #[.int .i64 b.brk, .int .i64 b.drag, .int .i64 b.drv]), (w.heap.size, 24, #[.string s, .slice A ps.length c])]) := Lib.hid G2
  clear hb2 G2 F1
  go_upto_region 5 with fail
  clear k0_0 k0_1 kf0 kg0 kz0 k1_0 k1_1 k1_2 kz1 k2_0 k2_1 k2_2 kz2
  go_cut [7, 8] from 19 to 29 (fun r e W => (r = .bool false ∧ e = .int .i64 er) ∧ Fr w2 W [])
  case first =>
    have HALL : Hid (∀ W, Fr w2 W [] → Fr w2 W [] ∧ W.cell? ⟨w.heap.size, 0, none⟩ = some (.string s) ∧ W.cell? ⟨w.heap.size, 1, none⟩ = some (.slice A ps.length c) ∧ W.cell? ⟨w.heap.size + 1, 0, none⟩ = some (.int .i64 b.brk) ∧ W.cell? ⟨w.heap.size + 1, 1, none⟩ = some (.int .i64 b.drag) ∧ W.cell? ⟨w.heap.size + 1, 2, none⟩ = some (.int .i64 b.drv) ∧ W.cell? ⟨w.heap.size + 1 + 1, 0, none⟩ = some (.int .i64 p) ∧ W.cell? ⟨w.heap.size + 1 + 1, 1, none⟩ = some (.int .i64 sq) ∧ W.cell? ⟨w.heap.size + 1 + 1, 2, none⟩ = some (.int .i64 stop)) := Lib.hid (fun W hW => ⟨hW, ((F2.out.get 2 rfl).call hW.bl).cell 0, ((F2.out.get 2 rfl).call hW.bl).cell 1, ((F2.out.get 1 rfl).call hW.bl).cell 0, ((F2.out.get 1 rfl).call hW.bl).cell 1, ((F2.out.get 1 rfl).call hW.bl).cell 2, ((F2.out.get 0 rfl).call hW.bl).cell 0, ((F2.out.get 0 rfl).call hW.bl).cell 1, ((F2.out.get 0 rfl).call hW.bl).cell 2⟩)
    have HAC := Lib.hid (Fr.lies HA.out F2.out)
    have F10 : Fr w2 _ [] := Fr.nil w2
    go_region_held3 (fun W => Fr w2 W [] ∧ W.cell? ⟨w.heap.size, 0, none⟩ = some (.string s) ∧ W.cell? ⟨w.heap.size, 1, none⟩ = some (.slice A ps.length c) ∧ W.cell? ⟨w.heap.size + 1, 0, none⟩ = some (.int .i64 b.brk) ∧ W.cell? ⟨w.heap.size + 1, 1, none⟩ = some (.int .i64 b.drag) ∧ W.cell? ⟨w.heap.size + 1, 2, none⟩ = some (.int .i64 b.drv) ∧ W.cell? ⟨w.heap.size + 1 + 1, 0, none⟩ = some (.int .i64 p) ∧ W.cell? ⟨w.heap.size + 1 + 1, 1, none⟩ = some (.int .i64 sq) ∧ W.cell? ⟨w.heap.size + 1 + 1, 2, none⟩ = some (.int .i64 stop))
        ((go_split_ands; refine HALL.out _ ?_; (first | assumption | (repeat (first | assumption | refine Fr.new ?_ _ | refine Fr.drew ?_ | (refine Fr.set ?_ (by first | exact Nat.le_refl _ | omega | (simp; done) | (simp; omega)) (by first | (simp; done) | (simp; omega)) _))); done)))
        ((first
          | (go_at_call 10; go_split_ands; (with_reducible refine (Copy_any s ps ⟨A, c⟩ (by omega) HG.out _ (Fr.lies HAC.out (by assumption))).mono ?_); rintro e w1 ⟨g2, rfl, hl2, hk2, hb1⟩; have HL2 := Lib.hid hl2; have F4 := Fr.call (by assumption) hb1; clear hb1 hl2 hk2)
          | (go_at_call 25; go_split_ands; (with_reducible refine (HRE.out _ _ _ HL2.out).mono ?_); rintro e w1 ⟨rfl, hb1⟩; have F5 := Fr.call (by assumption) hb1; clear hb1)
          | fail "arm"))
    all_goals
      go_split_ands
      go_wp2_with fail
      go_meet
      exact ⟨⟨rfl, rfl⟩, by assumption⟩
  case rest =>
    obtain ⟨wx3, rfl⟩ : ∃ W, W = wc := ⟨_, rfl⟩
    obtain ⟨⟨rfl, rfl⟩, hx⟩ := hcut
    have FC3 := Lib.hid (F2.out.call hx.bl)
    clear hx F2
    obtain ⟨k0_0, k0_1, kf0, kg0⟩ := (FC3.out.get 2 rfl).two
    have kz0 := (FC3.out.get 2 rfl).lt
    obtain ⟨k1_0, k1_1, k1_2⟩ := (FC3.out.get 1 rfl).three
    have kz1 := (FC3.out.get 1 rfl).lt
    obtain ⟨k2_0, k2_1, k2_2⟩ := (FC3.out.get 0 rfl).three
    have kz2 := (FC3.out.get 0 rfl).lt
    go_upto_region 6 with fail
    clear k0_0 k0_1 kf0 kg0 kz0 k1_0 k1_1 k1_2 kz1 k2_0 k2_1 k2_2 kz2
    go_cut [9, 10] from 30 to 40 (fun r e W => (∃ g : Hd, r = .slice g.A 0 g.c ∧ e = .int .i64 er) ∧ Fr wx3 W [])
    case first =>
      have HALL : Hid (∀ W, Fr wx3 W [] → Fr wx3 W [] ∧ W.cell? ⟨w.heap.size, 0, none⟩ = some (.string s) ∧ W.cell? ⟨w.heap.size, 1, none⟩ = some (.slice A ps.length c) ∧ W.cell? ⟨w.heap.size + 1, 0, none⟩ = some (.int .i64 b.brk) ∧ W.cell? ⟨w.heap.size + 1, 1, none⟩ = some (.int .i64 b.drag) ∧ W.cell? ⟨w.heap.size + 1, 2, none⟩ = some (.int .i64 b.drv) ∧ W.cell? ⟨w.heap.size + 1 + 1, 0, none⟩ = some (.int .i64 p) ∧ W.cell? ⟨w.heap.size + 1 + 1, 1, none⟩ = some (.int .i64 sq) ∧ W.cell? ⟨w.heap.size + 1 + 1, 2, none⟩ = some (.int .i64 stop)) := Lib.hid (fun W hW => ⟨hW, ((FC3.out.get 2 rfl).call hW.bl).cell 0, ((FC3.out.get 2 rfl).call hW.bl).cell 1, ((FC3.out.get 1 rfl).call hW.bl).cell 0, ((FC3.out.get 1 rfl).call hW.bl).cell 1, ((FC3.out.get 1 rfl).call hW.bl).cell 2, ((FC3.out.get 0 rfl).call hW.bl).cell 0, ((FC3.out.get 0 rfl).call hW.bl).cell 1, ((FC3.out.get 0 rfl).call hW.bl).cell 2⟩)
      have HAC := Lib.hid (Fr.lies HA.out FC3.out)
      have F10 : Fr wx3 _ [] := Fr.nil wx3
      go_region_held3 (fun W => Fr wx3 W [] ∧ W.cell? ⟨w.heap.size, 0, none⟩ = some (.string s) ∧ W.cell? ⟨w.heap.size, 1, none⟩ = some (.slice A ps.length c) ∧ W.cell? ⟨w.heap.size + 1, 0, none⟩ = some (.int .i64 b.brk) ∧ W.cell? ⟨w.heap.size + 1, 1, none⟩ = some (.int .i64 b.drag) ∧ W.cell? ⟨w.heap.size + 1, 2, none⟩ = some (.int .i64 b.drv) ∧ W.cell? ⟨w.heap.size + 1 + 1, 0, none⟩ = some (.int .i64 p) ∧ W.cell? ⟨w.heap.size + 1 + 1, 1, none⟩ = some (.int .i64 sq) ∧ W.cell? ⟨w.heap.size + 1 + 1, 2, none⟩ = some (.int .i64 stop))
          ((go_split_ands; refine HALL.out _ ?_; (first | assumption | (repeat (first | assumption | refine Fr.new ?_ _ | refine Fr.drew ?_ | (refine Fr.set ?_ (by first | exact Nat.le_refl _ | omega | (simp; done) | (simp; omega)) (by first | (simp; done) | (simp; omega)) _))); done)))
          ((first
            | (go_at_call 10; go_split_ands; (with_reducible refine (Copy_any s ps ⟨A, c⟩ (by omega) HG.out _ (Fr.lies HAC.out (by assumption))).mono ?_); rintro e w1 ⟨g2, rfl, hl2, hk2, hb1⟩; have HL2 := Lib.hid hl2; have F4 := Fr.call (by assumption) hb1; clear hb1 hl2 hk2)
            | (go_at_call 26; go_split_ands; (with_reducible refine (HRT.out _ _ _ HL2.out).mono ?_); rintro e w1 ⟨g3, rfl, hb1⟩; have F5 := Fr.call (by assumption) hb1; clear hb1)
            | fail "arm"))
      all_goals
        go_split_ands
        go_wp2_with fail
        go_meet
        exact ⟨⟨g3, rfl, rfl⟩, by assumption⟩
    case rest =>
      obtain ⟨wx4, rfl⟩ : ∃ W, W = wc := ⟨_, rfl⟩
      obtain ⟨⟨gx, rfl, rfl⟩, hx⟩ := hcut
      have FC4 := Lib.hid (FC3.out.call hx.bl)
      clear hx FC3
      obtain ⟨k0_0, k0_1, kf0, kg0⟩ := (FC4.out.get 2 rfl).two
      have kz0 := (FC4.out.get 2 rfl).lt
      obtain ⟨k1_0, k1_1, k1_2⟩ := (FC4.out.get 1 rfl).three
      have kz1 := (FC4.out.get 1 rfl).lt
      obtain ⟨k2_0, k2_1, k2_2⟩ := (FC4.out.get 0 rfl).three
      have kz2 := (FC4.out.get 0 rfl).lt
      go_wp2_with fail
      refine (BothErr_any s hs ps A c hl b _ (Fr.lies HA.out FC4.out)).mono ?_
      rintro e w3 ⟨rfl, hb3⟩
      rw [H0.out]
      clear k0_0 k0_1 kf0 kg0 kz0 k1_0 k1_1 k1_2 kz1 k2_0 k2_1 k2_2 kz2
      have G3 := Fr.call FC4.out hb3
      obtain ⟨k0_0, k0_1, kf0, kg0⟩ := (G3.get 2 rfl).two
      have kz0 := (G3.get 2 rfl).lt
      obtain ⟨k1_0, k1_1, k1_2⟩ := (G3.get 1 rfl).three
      have kz1 := (G3.get 1 rfl).lt
      obtain ⟨k2_0, k2_1, k2_2⟩ := (G3.get 0 rfl).three
      have kz2 := (G3.get 0 rfl).lt
      have F3 : Hid (Fr w _ [(w.heap.size + 1 + 1, 51, #[.int .i64 p, .int .i64 sq, .int .i64 stop]), (w.heap.size + 1, 26, #[.int .i64 b.brk, .int .i64 b.drag, .int .i64 b.drv]), (w.heap.size, 24, #[.string s, .slice A ps.length c])]) := Lib.hid G3
      clear hb3 G3 FC4
      go_wp2_with fail
      refine (StateErr_any s ps A c (by omega) p sq _).mono ?_
      rintro e w4 ⟨rfl, hb4⟩
      rw [HE.out]
      clear k0_0 k0_1 kf0 kg0 kz0 k1_0 k1_1 k1_2 kz1 k2_0 k2_1 k2_2 kz2
      have G4 := Fr.call F3.out hb4
      obtain ⟨k0_0, k0_1, kf0, kg0⟩ := (G4.get 2 rfl).two
      have kz0 := (G4.get 2 rfl).lt
      obtain ⟨k1_0, k1_1, k1_2⟩ := (G4.get 1 rfl).three
      have kz1 := (G4.get 1 rfl).lt
      obtain ⟨k2_0, k2_1, k2_2⟩ := (G4.get 0 rfl).three
      have kz2 := (G4.get 0 rfl).lt
      have F4 : Hid (Fr w _ [(w.heap.size + 1 + 1, 51, #[.int .i64 p, .int .i64 sq, .int .i64 stop]), (w.heap.size + 1, 26, #[.int .i64 b.brk, .int .i64 b.drag, .int .i64 b.drv]), (w.heap.size, 24, #[.string s, .slice A ps.length c])]) := Lib.hid G4
      clear hb4 G4 F3
      go_wp2_with fail
      go_ret
      exact ⟨rfl, F4.out.bl⟩

set_option maxHeartbeats 8000000 in
set_option maxRecDepth 100000 in
theorem reaches_bad2 (s : ByteArray) (hs : s.size ≤ maxLen) (ps : List Bp) (A : Option Addr) (c : Nat) (hg : HdOk ⟨A, c⟩) (hl : ps.length ≤ maxLen) (b : Bs) (p sq stop : Int) (hsh : shortB s ps = true) (er : Int) (hr : er ≠ 0) (h0 : bothE s ps b = 0) (h1 : stateE ps p sq = 0) (hb0 : stopE ps stop = er) (w : World) (hA : Lies w w.heap.size A (ps.flatMap pc)) : Calls Try.prog 5 #[.agg #[.string s, .slice A ps.length c], .agg #[.int .i64 b.brk, .int .i64 b.drag, .int .i64 b.drv], .agg #[.int .i64 p, .int .i64 sq, .int .i64 stop]] w fun e w' => e = .returned (.bool true) ∧ Below w.heap.size w w' := by
  have F0 := Lib.hid (Fr.b3 w 24 #[.string s, .slice A ps.length c] 26 #[.int .i64 b.brk, .int .i64 b.drag, .int .i64 b.drv] 51 #[.int .i64 p, .int .i64 sq, .int .i64 stop])
  have HA := Lib.hid hA
  have HG := Lib.hid hg
  clear hA hg
  have HSH := Lib.hid hsh
  have hl14 : ps.length ≤ 14 := (short_iff.1 hsh).2
  clear hsh
  have hnz : nz ((trE s ps).2 :: sE b :: [stateE ps p sq, stopE ps stop, orderE p stop]) = er := by rw [bothE_nz, if_pos h0, h1, hb0]; simp [nz, hr]
  have HRE : Hid (∀ (A' : Option Addr) (c' : Nat) (W : World), Lies W W.heap.size A' (ps.flatMap pc) → Calls Try.prog 25 #[.agg #[.string s, .slice A' ps.length c'], .agg #[.int .i64 b.brk, .int .i64 b.drag, .int .i64 b.drv], .agg #[.int .i64 p, .int .i64 sq], .int .i64 stop] W fun e w' => e = .returned (.tuple #[.bool false, .int .i64 er]) ∧ Below W.heap.size W w') := Lib.hid (fun A' c' W h => Reaches_bad s hs ps A' c' (by omega) b p sq stop er hnz hr W h)
  have HRT : Hid (∀ (A' : Option Addr) (c' : Nat) (W : World), Lies W W.heap.size A' (ps.flatMap pc) → Calls Try.prog 26 #[.agg #[.string s, .slice A' ps.length c'], .agg #[.int .i64 b.brk, .int .i64 b.drag, .int .i64 b.drv], .agg #[.int .i64 p, .int .i64 sq], .int .i64 stop] W fun e w' => ∃ g : Hd, e = .returned (.tuple #[.slice g.A 0 g.c, .int .i64 er]) ∧ Below W.heap.size W w') := Lib.hid (fun A' c' W h => (RunTo_bad s hs ps A' c' (by omega) b p sq stop er hnz hr W h).mono fun _ _ h => rowE_bad hr h)
  have HE := Lib.hid hb0
  have H0 := Lib.hid h0
  have H1 := Lib.hid h1
  have ge : (er == 0) = false := by simp [hr]
  have gn : (er != 0) = true := by simp [hr]
  clear hb0 hr hnz h0 h1
  go_enter Try.func5, Try.ntmps5
  go_wp2_with fail
  refine (awake_any _).mono ?_
  rintro e w1 ⟨rfl, hb1⟩
  have G1 := Fr.call F0.out hb1
  obtain ⟨k0_0, k0_1, kf0, kg0⟩ := (G1.get 2 rfl).two
  have kz0 := (G1.get 2 rfl).lt
  obtain ⟨k1_0, k1_1, k1_2⟩ := (G1.get 1 rfl).three
  have kz1 := (G1.get 1 rfl).lt
  obtain ⟨k2_0, k2_1, k2_2⟩ := (G1.get 0 rfl).three
  have kz2 := (G1.get 0 rfl).lt
  have F1 : Hid (Fr w _ [(w.heap.size + 1 + 1, 51, #[.int .i64 p, .int .i64 sq, .int .i64 stop]), (w.heap.size + 1, 26, #[.int .i64 b.brk, .int .i64 b.drag, .int .i64 b.drv]), (w.heap.size, 24, #[.string s, .slice A ps.length c])]) := Lib.hid G1
  clear hb1 G1 F0
  go_wp2_with fail
  refine (Short_any s hs ps A c hl _).mono ?_
  rintro e w2 ⟨rfl, hb2⟩
  rw [HSH.out]
  clear k0_0 k0_1 kf0 kg0 kz0 k1_0 k1_1 k1_2 kz1 k2_0 k2_1 k2_2 kz2
  have G2 := Fr.call F1.out hb2
  obtain ⟨k0_0, k0_1, kf0, kg0⟩ := (G2.get 2 rfl).two
  have kz0 := (G2.get 2 rfl).lt
  obtain ⟨k1_0, k1_1, k1_2⟩ := (G2.get 1 rfl).three
  have kz1 := (G2.get 1 rfl).lt
  obtain ⟨k2_0, k2_1, k2_2⟩ := (G2.get 0 rfl).three
  have kz2 := (G2.get 0 rfl).lt
  have F2 : Hid (Fr w _ [(w.heap.size + 1 + 1, 51, #[.int .i64 p, .int .i64 sq, .int .i64 stop]), (w.heap.size + 1, 26, #[.int .i64 b.brk, .int .i64 b.drag, .int .i64 b.drv]), (w.heap.size, 24, #[.string s, .slice A ps.length c])]) := Lib.hid G2
  clear hb2 G2 F1
  go_upto_region 5 with fail
  clear k0_0 k0_1 kf0 kg0 kz0 k1_0 k1_1 k1_2 kz1 k2_0 k2_1 k2_2 kz2
  go_cut [7, 8] from 19 to 29 (fun r e W => (r = .bool false ∧ e = .int .i64 er) ∧ Fr w2 W [])
  case first =>
    have HALL : Hid (∀ W, Fr w2 W [] → Fr w2 W [] ∧ W.cell? ⟨w.heap.size, 0, none⟩ = some (.string s) ∧ W.cell? ⟨w.heap.size, 1, none⟩ = some (.slice A ps.length c) ∧ W.cell? ⟨w.heap.size + 1, 0, none⟩ = some (.int .i64 b.brk) ∧ W.cell? ⟨w.heap.size + 1, 1, none⟩ = some (.int .i64 b.drag) ∧ W.cell? ⟨w.heap.size + 1, 2, none⟩ = some (.int .i64 b.drv) ∧ W.cell? ⟨w.heap.size + 1 + 1, 0, none⟩ = some (.int .i64 p) ∧ W.cell? ⟨w.heap.size + 1 + 1, 1, none⟩ = some (.int .i64 sq) ∧ W.cell? ⟨w.heap.size + 1 + 1, 2, none⟩ = some (.int .i64 stop)) := Lib.hid (fun W hW => ⟨hW, ((F2.out.get 2 rfl).call hW.bl).cell 0, ((F2.out.get 2 rfl).call hW.bl).cell 1, ((F2.out.get 1 rfl).call hW.bl).cell 0, ((F2.out.get 1 rfl).call hW.bl).cell 1, ((F2.out.get 1 rfl).call hW.bl).cell 2, ((F2.out.get 0 rfl).call hW.bl).cell 0, ((F2.out.get 0 rfl).call hW.bl).cell 1, ((F2.out.get 0 rfl).call hW.bl).cell 2⟩)
    have HAC := Lib.hid (Fr.lies HA.out F2.out)
    have F10 : Fr w2 _ [] := Fr.nil w2
    go_region_held3 (fun W => Fr w2 W [] ∧ W.cell? ⟨w.heap.size, 0, none⟩ = some (.string s) ∧ W.cell? ⟨w.heap.size, 1, none⟩ = some (.slice A ps.length c) ∧ W.cell? ⟨w.heap.size + 1, 0, none⟩ = some (.int .i64 b.brk) ∧ W.cell? ⟨w.heap.size + 1, 1, none⟩ = some (.int .i64 b.drag) ∧ W.cell? ⟨w.heap.size + 1, 2, none⟩ = some (.int .i64 b.drv) ∧ W.cell? ⟨w.heap.size + 1 + 1, 0, none⟩ = some (.int .i64 p) ∧ W.cell? ⟨w.heap.size + 1 + 1, 1, none⟩ = some (.int .i64 sq) ∧ W.cell? ⟨w.heap.size + 1 + 1, 2, none⟩ = some (.int .i64 stop))
        ((go_split_ands; refine HALL.out _ ?_; (first | assumption | (repeat (first | assumption | refine Fr.new ?_ _ | refine Fr.drew ?_ | (refine Fr.set ?_ (by first | exact Nat.le_refl _ | omega | (simp; done) | (simp; omega)) (by first | (simp; done) | (simp; omega)) _))); done)))
        ((first
          | (go_at_call 10; go_split_ands; (with_reducible refine (Copy_any s ps ⟨A, c⟩ (by omega) HG.out _ (Fr.lies HAC.out (by assumption))).mono ?_); rintro e w1 ⟨g2, rfl, hl2, hk2, hb1⟩; have HL2 := Lib.hid hl2; have F4 := Fr.call (by assumption) hb1; clear hb1 hl2 hk2)
          | (go_at_call 25; go_split_ands; (with_reducible refine (HRE.out _ _ _ HL2.out).mono ?_); rintro e w1 ⟨rfl, hb1⟩; have F5 := Fr.call (by assumption) hb1; clear hb1)
          | fail "arm"))
    all_goals
      go_split_ands
      go_wp2_with fail
      go_meet
      exact ⟨⟨rfl, rfl⟩, by assumption⟩
  case rest =>
    obtain ⟨wx5, rfl⟩ : ∃ W, W = wc := ⟨_, rfl⟩
    obtain ⟨⟨rfl, rfl⟩, hx⟩ := hcut
    have FC5 := Lib.hid (F2.out.call hx.bl)
    clear hx F2
    obtain ⟨k0_0, k0_1, kf0, kg0⟩ := (FC5.out.get 2 rfl).two
    have kz0 := (FC5.out.get 2 rfl).lt
    obtain ⟨k1_0, k1_1, k1_2⟩ := (FC5.out.get 1 rfl).three
    have kz1 := (FC5.out.get 1 rfl).lt
    obtain ⟨k2_0, k2_1, k2_2⟩ := (FC5.out.get 0 rfl).three
    have kz2 := (FC5.out.get 0 rfl).lt
    go_upto_region 6 with fail
    clear k0_0 k0_1 kf0 kg0 kz0 k1_0 k1_1 k1_2 kz1 k2_0 k2_1 k2_2 kz2
    go_cut [9, 10] from 30 to 40 (fun r e W => (∃ g : Hd, r = .slice g.A 0 g.c ∧ e = .int .i64 er) ∧ Fr wx5 W [])
    case first =>
      have HALL : Hid (∀ W, Fr wx5 W [] → Fr wx5 W [] ∧ W.cell? ⟨w.heap.size, 0, none⟩ = some (.string s) ∧ W.cell? ⟨w.heap.size, 1, none⟩ = some (.slice A ps.length c) ∧ W.cell? ⟨w.heap.size + 1, 0, none⟩ = some (.int .i64 b.brk) ∧ W.cell? ⟨w.heap.size + 1, 1, none⟩ = some (.int .i64 b.drag) ∧ W.cell? ⟨w.heap.size + 1, 2, none⟩ = some (.int .i64 b.drv) ∧ W.cell? ⟨w.heap.size + 1 + 1, 0, none⟩ = some (.int .i64 p) ∧ W.cell? ⟨w.heap.size + 1 + 1, 1, none⟩ = some (.int .i64 sq) ∧ W.cell? ⟨w.heap.size + 1 + 1, 2, none⟩ = some (.int .i64 stop)) := Lib.hid (fun W hW => ⟨hW, ((FC5.out.get 2 rfl).call hW.bl).cell 0, ((FC5.out.get 2 rfl).call hW.bl).cell 1, ((FC5.out.get 1 rfl).call hW.bl).cell 0, ((FC5.out.get 1 rfl).call hW.bl).cell 1, ((FC5.out.get 1 rfl).call hW.bl).cell 2, ((FC5.out.get 0 rfl).call hW.bl).cell 0, ((FC5.out.get 0 rfl).call hW.bl).cell 1, ((FC5.out.get 0 rfl).call hW.bl).cell 2⟩)
      have HAC := Lib.hid (Fr.lies HA.out FC5.out)
      have F10 : Fr wx5 _ [] := Fr.nil wx5
      go_region_held3 (fun W => Fr wx5 W [] ∧ W.cell? ⟨w.heap.size, 0, none⟩ = some (.string s) ∧ W.cell? ⟨w.heap.size, 1, none⟩ = some (.slice A ps.length c) ∧ W.cell? ⟨w.heap.size + 1, 0, none⟩ = some (.int .i64 b.brk) ∧ W.cell? ⟨w.heap.size + 1, 1, none⟩ = some (.int .i64 b.drag) ∧ W.cell? ⟨w.heap.size + 1, 2, none⟩ = some (.int .i64 b.drv) ∧ W.cell? ⟨w.heap.size + 1 + 1, 0, none⟩ = some (.int .i64 p) ∧ W.cell? ⟨w.heap.size + 1 + 1, 1, none⟩ = some (.int .i64 sq) ∧ W.cell? ⟨w.heap.size + 1 + 1, 2, none⟩ = some (.int .i64 stop))
          ((go_split_ands; refine HALL.out _ ?_; (first | assumption | (repeat (first | assumption | refine Fr.new ?_ _ | refine Fr.drew ?_ | (refine Fr.set ?_ (by first | exact Nat.le_refl _ | omega | (simp; done) | (simp; omega)) (by first | (simp; done) | (simp; omega)) _))); done)))
          ((first
            | (go_at_call 10; go_split_ands; (with_reducible refine (Copy_any s ps ⟨A, c⟩ (by omega) HG.out _ (Fr.lies HAC.out (by assumption))).mono ?_); rintro e w1 ⟨g2, rfl, hl2, hk2, hb1⟩; have HL2 := Lib.hid hl2; have F4 := Fr.call (by assumption) hb1; clear hb1 hl2 hk2)
            | (go_at_call 26; go_split_ands; (with_reducible refine (HRT.out _ _ _ HL2.out).mono ?_); rintro e w1 ⟨g3, rfl, hb1⟩; have F5 := Fr.call (by assumption) hb1; clear hb1)
            | fail "arm"))
      all_goals
        go_split_ands
        go_wp2_with fail
        go_meet
        exact ⟨⟨g3, rfl, rfl⟩, by assumption⟩
    case rest =>
      obtain ⟨wx6, rfl⟩ : ∃ W, W = wc := ⟨_, rfl⟩
      obtain ⟨⟨gx, rfl, rfl⟩, hx⟩ := hcut
      have FC6 := Lib.hid (FC5.out.call hx.bl)
      clear hx FC5
      obtain ⟨k0_0, k0_1, kf0, kg0⟩ := (FC6.out.get 2 rfl).two
      have kz0 := (FC6.out.get 2 rfl).lt
      obtain ⟨k1_0, k1_1, k1_2⟩ := (FC6.out.get 1 rfl).three
      have kz1 := (FC6.out.get 1 rfl).lt
      obtain ⟨k2_0, k2_1, k2_2⟩ := (FC6.out.get 0 rfl).three
      have kz2 := (FC6.out.get 0 rfl).lt
      go_wp2_with fail
      refine (BothErr_any s hs ps A c hl b _ (Fr.lies HA.out FC6.out)).mono ?_
      rintro e w3 ⟨rfl, hb3⟩
      rw [H0.out]
      clear k0_0 k0_1 kf0 kg0 kz0 k1_0 k1_1 k1_2 kz1 k2_0 k2_1 k2_2 kz2
      have G3 := Fr.call FC6.out hb3
      obtain ⟨k0_0, k0_1, kf0, kg0⟩ := (G3.get 2 rfl).two
      have kz0 := (G3.get 2 rfl).lt
      obtain ⟨k1_0, k1_1, k1_2⟩ := (G3.get 1 rfl).three
      have kz1 := (G3.get 1 rfl).lt
      obtain ⟨k2_0, k2_1, k2_2⟩ := (G3.get 0 rfl).three
      have kz2 := (G3.get 0 rfl).lt
      have F3 : Hid (Fr w _ [(w.heap.size + 1 + 1, 51, #[.int .i64 p, .int .i64 sq, .int .i64 stop]), (w.heap.size + 1, 26, #[.int .i64 b.brk, .int .i64 b.drag, .int .i64 b.drv]), (w.heap.size, 24, #[.string s, .slice A ps.length c])]) := Lib.hid G3
      clear hb3 G3 FC6
      go_wp2_with fail
      refine (StateErr_any s ps A c (by omega) p sq _).mono ?_
      rintro e w4 ⟨rfl, hb4⟩
      rw [H1.out]
      clear k0_0 k0_1 kf0 kg0 kz0 k1_0 k1_1 k1_2 kz1 k2_0 k2_1 k2_2 kz2
      have G4 := Fr.call F3.out hb4
      obtain ⟨k0_0, k0_1, kf0, kg0⟩ := (G4.get 2 rfl).two
      have kz0 := (G4.get 2 rfl).lt
      obtain ⟨k1_0, k1_1, k1_2⟩ := (G4.get 1 rfl).three
      have kz1 := (G4.get 1 rfl).lt
      obtain ⟨k2_0, k2_1, k2_2⟩ := (G4.get 0 rfl).three
      have kz2 := (G4.get 0 rfl).lt
      have F4 : Hid (Fr w _ [(w.heap.size + 1 + 1, 51, #[.int .i64 p, .int .i64 sq, .int .i64 stop]), (w.heap.size + 1, 26, #[.int .i64 b.brk, .int .i64 b.drag, .int .i64 b.drv]), (w.heap.size, 24, #[.string s, .slice A ps.length c])]) := Lib.hid G4
      clear hb4 G4 F3
      go_wp2_with fail
      refine (StopErr_any s ps A c (by omega) stop _ (Fr.lies HA.out F4.out)).mono ?_
      rintro e w5 ⟨rfl, hb5⟩
      rw [HE.out]
      clear k0_0 k0_1 kf0 kg0 kz0 k1_0 k1_1 k1_2 kz1 k2_0 k2_1 k2_2 kz2
      have G5 := Fr.call F4.out hb5
      obtain ⟨k0_0, k0_1, kf0, kg0⟩ := (G5.get 2 rfl).two
      have kz0 := (G5.get 2 rfl).lt
      obtain ⟨k1_0, k1_1, k1_2⟩ := (G5.get 1 rfl).three
      have kz1 := (G5.get 1 rfl).lt
      obtain ⟨k2_0, k2_1, k2_2⟩ := (G5.get 0 rfl).three
      have kz2 := (G5.get 0 rfl).lt
      have F5 : Hid (Fr w _ [(w.heap.size + 1 + 1, 51, #[.int .i64 p, .int .i64 sq, .int .i64 stop]), (w.heap.size + 1, 26, #[.int .i64 b.brk, .int .i64 b.drag, .int .i64 b.drv]), (w.heap.size, 24, #[.string s, .slice A ps.length c])]) := Lib.hid G5
      clear hb5 G5 F4
      go_wp2_with fail
      go_ret
      exact ⟨rfl, F5.out.bl⟩

set_option maxHeartbeats 8000000 in
set_option maxRecDepth 100000 in
theorem reaches_bad3 (s : ByteArray) (hs : s.size ≤ maxLen) (ps : List Bp) (A : Option Addr) (c : Nat) (hg : HdOk ⟨A, c⟩) (hl : ps.length ≤ maxLen) (b : Bs) (p sq stop : Int) (hsh : shortB s ps = true) (er : Int) (hr : er ≠ 0) (h0 : bothE s ps b = 0) (h1 : stateE ps p sq = 0) (h2 : stopE ps stop = 0) (hb0 : orderE p stop = er) (w : World) (hA : Lies w w.heap.size A (ps.flatMap pc)) : Calls Try.prog 5 #[.agg #[.string s, .slice A ps.length c], .agg #[.int .i64 b.brk, .int .i64 b.drag, .int .i64 b.drv], .agg #[.int .i64 p, .int .i64 sq, .int .i64 stop]] w fun e w' => e = .returned (.bool true) ∧ Below w.heap.size w w' := by
  have F0 := Lib.hid (Fr.b3 w 24 #[.string s, .slice A ps.length c] 26 #[.int .i64 b.brk, .int .i64 b.drag, .int .i64 b.drv] 51 #[.int .i64 p, .int .i64 sq, .int .i64 stop])
  have HA := Lib.hid hA
  have HG := Lib.hid hg
  clear hA hg
  have HSH := Lib.hid hsh
  have hl14 : ps.length ≤ 14 := (short_iff.1 hsh).2
  clear hsh
  have hnz : nz ((trE s ps).2 :: sE b :: [stateE ps p sq, stopE ps stop, orderE p stop]) = er := by rw [bothE_nz, if_pos h0, h1, h2, hb0]; simp [nz, hr]
  have HRE : Hid (∀ (A' : Option Addr) (c' : Nat) (W : World), Lies W W.heap.size A' (ps.flatMap pc) → Calls Try.prog 25 #[.agg #[.string s, .slice A' ps.length c'], .agg #[.int .i64 b.brk, .int .i64 b.drag, .int .i64 b.drv], .agg #[.int .i64 p, .int .i64 sq], .int .i64 stop] W fun e w' => e = .returned (.tuple #[.bool false, .int .i64 er]) ∧ Below W.heap.size W w') := Lib.hid (fun A' c' W h => Reaches_bad s hs ps A' c' (by omega) b p sq stop er hnz hr W h)
  have HRT : Hid (∀ (A' : Option Addr) (c' : Nat) (W : World), Lies W W.heap.size A' (ps.flatMap pc) → Calls Try.prog 26 #[.agg #[.string s, .slice A' ps.length c'], .agg #[.int .i64 b.brk, .int .i64 b.drag, .int .i64 b.drv], .agg #[.int .i64 p, .int .i64 sq], .int .i64 stop] W fun e w' => ∃ g : Hd, e = .returned (.tuple #[.slice g.A 0 g.c, .int .i64 er]) ∧ Below W.heap.size W w') := Lib.hid (fun A' c' W h => (RunTo_bad s hs ps A' c' (by omega) b p sq stop er hnz hr W h).mono fun _ _ h => rowE_bad hr h)
  have HE := Lib.hid hb0
  have H0 := Lib.hid h0
  have H1 := Lib.hid h1
  have H2 := Lib.hid h2
  have ge : (er == 0) = false := by simp [hr]
  have gn : (er != 0) = true := by simp [hr]
  have hor : er = 9 := by rw [← hb0]; unfold orderE at hb0 ⊢; split; rfl; (rename_i h; rw [if_neg h] at hb0; exact absurd hb0.symm hr)
  have hgt : stop < p := by rw [← hb0] at hr; unfold orderE at hr; split at hr; assumption; (exact absurd rfl hr)
  subst hor
  clear hb0 hr hnz h0 h1 h2
  go_enter Try.func5, Try.ntmps5
  go_wp2_with fail
  refine (awake_any _).mono ?_
  rintro e w1 ⟨rfl, hb1⟩
  have G1 := Fr.call F0.out hb1
  obtain ⟨k0_0, k0_1, kf0, kg0⟩ := (G1.get 2 rfl).two
  have kz0 := (G1.get 2 rfl).lt
  obtain ⟨k1_0, k1_1, k1_2⟩ := (G1.get 1 rfl).three
  have kz1 := (G1.get 1 rfl).lt
  obtain ⟨k2_0, k2_1, k2_2⟩ := (G1.get 0 rfl).three
  have kz2 := (G1.get 0 rfl).lt
  have F1 : Hid (Fr w _ [(w.heap.size + 1 + 1, 51, #[.int .i64 p, .int .i64 sq, .int .i64 stop]), (w.heap.size + 1, 26, #[.int .i64 b.brk, .int .i64 b.drag, .int .i64 b.drv]), (w.heap.size, 24, #[.string s, .slice A ps.length c])]) := Lib.hid G1
  clear hb1 G1 F0
  go_wp2_with fail
  refine (Short_any s hs ps A c hl _).mono ?_
  rintro e w2 ⟨rfl, hb2⟩
  rw [HSH.out]
  clear k0_0 k0_1 kf0 kg0 kz0 k1_0 k1_1 k1_2 kz1 k2_0 k2_1 k2_2 kz2
  have G2 := Fr.call F1.out hb2
  obtain ⟨k0_0, k0_1, kf0, kg0⟩ := (G2.get 2 rfl).two
  have kz0 := (G2.get 2 rfl).lt
  obtain ⟨k1_0, k1_1, k1_2⟩ := (G2.get 1 rfl).three
  have kz1 := (G2.get 1 rfl).lt
  obtain ⟨k2_0, k2_1, k2_2⟩ := (G2.get 0 rfl).three
  have kz2 := (G2.get 0 rfl).lt
  have F2 : Hid (Fr w _ [(w.heap.size + 1 + 1, 51, #[.int .i64 p, .int .i64 sq, .int .i64 stop]), (w.heap.size + 1, 26, #[.int .i64 b.brk, .int .i64 b.drag, .int .i64 b.drv]), (w.heap.size, 24, #[.string s, .slice A ps.length c])]) := Lib.hid G2
  clear hb2 G2 F1
  go_upto_region 5 with fail
  clear k0_0 k0_1 kf0 kg0 kz0 k1_0 k1_1 k1_2 kz1 k2_0 k2_1 k2_2 kz2
  go_cut [7, 8] from 19 to 29 (fun r e W => (r = .bool false ∧ e = .int .i64 9) ∧ Fr w2 W [])
  case first =>
    have HALL : Hid (∀ W, Fr w2 W [] → Fr w2 W [] ∧ W.cell? ⟨w.heap.size, 0, none⟩ = some (.string s) ∧ W.cell? ⟨w.heap.size, 1, none⟩ = some (.slice A ps.length c) ∧ W.cell? ⟨w.heap.size + 1, 0, none⟩ = some (.int .i64 b.brk) ∧ W.cell? ⟨w.heap.size + 1, 1, none⟩ = some (.int .i64 b.drag) ∧ W.cell? ⟨w.heap.size + 1, 2, none⟩ = some (.int .i64 b.drv) ∧ W.cell? ⟨w.heap.size + 1 + 1, 0, none⟩ = some (.int .i64 p) ∧ W.cell? ⟨w.heap.size + 1 + 1, 1, none⟩ = some (.int .i64 sq) ∧ W.cell? ⟨w.heap.size + 1 + 1, 2, none⟩ = some (.int .i64 stop)) := Lib.hid (fun W hW => ⟨hW, ((F2.out.get 2 rfl).call hW.bl).cell 0, ((F2.out.get 2 rfl).call hW.bl).cell 1, ((F2.out.get 1 rfl).call hW.bl).cell 0, ((F2.out.get 1 rfl).call hW.bl).cell 1, ((F2.out.get 1 rfl).call hW.bl).cell 2, ((F2.out.get 0 rfl).call hW.bl).cell 0, ((F2.out.get 0 rfl).call hW.bl).cell 1, ((F2.out.get 0 rfl).call hW.bl).cell 2⟩)
    have HAC := Lib.hid (Fr.lies HA.out F2.out)
    have F10 : Fr w2 _ [] := Fr.nil w2
    go_region_held3 (fun W => Fr w2 W [] ∧ W.cell? ⟨w.heap.size, 0, none⟩ = some (.string s) ∧ W.cell? ⟨w.heap.size, 1, none⟩ = some (.slice A ps.length c) ∧ W.cell? ⟨w.heap.size + 1, 0, none⟩ = some (.int .i64 b.brk) ∧ W.cell? ⟨w.heap.size + 1, 1, none⟩ = some (.int .i64 b.drag) ∧ W.cell? ⟨w.heap.size + 1, 2, none⟩ = some (.int .i64 b.drv) ∧ W.cell? ⟨w.heap.size + 1 + 1, 0, none⟩ = some (.int .i64 p) ∧ W.cell? ⟨w.heap.size + 1 + 1, 1, none⟩ = some (.int .i64 sq) ∧ W.cell? ⟨w.heap.size + 1 + 1, 2, none⟩ = some (.int .i64 stop))
        ((go_split_ands; refine HALL.out _ ?_; (first | assumption | (repeat (first | assumption | refine Fr.new ?_ _ | refine Fr.drew ?_ | (refine Fr.set ?_ (by first | exact Nat.le_refl _ | omega | (simp; done) | (simp; omega)) (by first | (simp; done) | (simp; omega)) _))); done)))
        ((first
          | (go_at_call 10; go_split_ands; (with_reducible refine (Copy_any s ps ⟨A, c⟩ (by omega) HG.out _ (Fr.lies HAC.out (by assumption))).mono ?_); rintro e w1 ⟨g2, rfl, hl2, hk2, hb1⟩; have HL2 := Lib.hid hl2; have F4 := Fr.call (by assumption) hb1; clear hb1 hl2 hk2)
          | (go_at_call 25; go_split_ands; (with_reducible refine (HRE.out _ _ _ HL2.out).mono ?_); rintro e w1 ⟨rfl, hb1⟩; have F5 := Fr.call (by assumption) hb1; clear hb1)
          | fail "arm"))
    all_goals
      go_split_ands
      go_wp2_with fail
      go_meet
      exact ⟨⟨rfl, rfl⟩, by assumption⟩
  case rest =>
    obtain ⟨wx7, rfl⟩ : ∃ W, W = wc := ⟨_, rfl⟩
    obtain ⟨⟨rfl, rfl⟩, hx⟩ := hcut
    have FC7 := Lib.hid (F2.out.call hx.bl)
    clear hx F2
    obtain ⟨k0_0, k0_1, kf0, kg0⟩ := (FC7.out.get 2 rfl).two
    have kz0 := (FC7.out.get 2 rfl).lt
    obtain ⟨k1_0, k1_1, k1_2⟩ := (FC7.out.get 1 rfl).three
    have kz1 := (FC7.out.get 1 rfl).lt
    obtain ⟨k2_0, k2_1, k2_2⟩ := (FC7.out.get 0 rfl).three
    have kz2 := (FC7.out.get 0 rfl).lt
    go_upto_region 6 with fail
    clear k0_0 k0_1 kf0 kg0 kz0 k1_0 k1_1 k1_2 kz1 k2_0 k2_1 k2_2 kz2
    go_cut [9, 10] from 30 to 40 (fun r e W => (∃ g : Hd, r = .slice g.A 0 g.c ∧ e = .int .i64 9) ∧ Fr wx7 W [])
    case first =>
      have HALL : Hid (∀ W, Fr wx7 W [] → Fr wx7 W [] ∧ W.cell? ⟨w.heap.size, 0, none⟩ = some (.string s) ∧ W.cell? ⟨w.heap.size, 1, none⟩ = some (.slice A ps.length c) ∧ W.cell? ⟨w.heap.size + 1, 0, none⟩ = some (.int .i64 b.brk) ∧ W.cell? ⟨w.heap.size + 1, 1, none⟩ = some (.int .i64 b.drag) ∧ W.cell? ⟨w.heap.size + 1, 2, none⟩ = some (.int .i64 b.drv) ∧ W.cell? ⟨w.heap.size + 1 + 1, 0, none⟩ = some (.int .i64 p) ∧ W.cell? ⟨w.heap.size + 1 + 1, 1, none⟩ = some (.int .i64 sq) ∧ W.cell? ⟨w.heap.size + 1 + 1, 2, none⟩ = some (.int .i64 stop)) := Lib.hid (fun W hW => ⟨hW, ((FC7.out.get 2 rfl).call hW.bl).cell 0, ((FC7.out.get 2 rfl).call hW.bl).cell 1, ((FC7.out.get 1 rfl).call hW.bl).cell 0, ((FC7.out.get 1 rfl).call hW.bl).cell 1, ((FC7.out.get 1 rfl).call hW.bl).cell 2, ((FC7.out.get 0 rfl).call hW.bl).cell 0, ((FC7.out.get 0 rfl).call hW.bl).cell 1, ((FC7.out.get 0 rfl).call hW.bl).cell 2⟩)
      have HAC := Lib.hid (Fr.lies HA.out FC7.out)
      have F10 : Fr wx7 _ [] := Fr.nil wx7
      go_region_held3 (fun W => Fr wx7 W [] ∧ W.cell? ⟨w.heap.size, 0, none⟩ = some (.string s) ∧ W.cell? ⟨w.heap.size, 1, none⟩ = some (.slice A ps.length c) ∧ W.cell? ⟨w.heap.size + 1, 0, none⟩ = some (.int .i64 b.brk) ∧ W.cell? ⟨w.heap.size + 1, 1, none⟩ = some (.int .i64 b.drag) ∧ W.cell? ⟨w.heap.size + 1, 2, none⟩ = some (.int .i64 b.drv) ∧ W.cell? ⟨w.heap.size + 1 + 1, 0, none⟩ = some (.int .i64 p) ∧ W.cell? ⟨w.heap.size + 1 + 1, 1, none⟩ = some (.int .i64 sq) ∧ W.cell? ⟨w.heap.size + 1 + 1, 2, none⟩ = some (.int .i64 stop))
          ((go_split_ands; refine HALL.out _ ?_; (first | assumption | (repeat (first | assumption | refine Fr.new ?_ _ | refine Fr.drew ?_ | (refine Fr.set ?_ (by first | exact Nat.le_refl _ | omega | (simp; done) | (simp; omega)) (by first | (simp; done) | (simp; omega)) _))); done)))
          ((first
            | (go_at_call 10; go_split_ands; (with_reducible refine (Copy_any s ps ⟨A, c⟩ (by omega) HG.out _ (Fr.lies HAC.out (by assumption))).mono ?_); rintro e w1 ⟨g2, rfl, hl2, hk2, hb1⟩; have HL2 := Lib.hid hl2; have F4 := Fr.call (by assumption) hb1; clear hb1 hl2 hk2)
            | (go_at_call 26; go_split_ands; (with_reducible refine (HRT.out _ _ _ HL2.out).mono ?_); rintro e w1 ⟨g3, rfl, hb1⟩; have F5 := Fr.call (by assumption) hb1; clear hb1)
            | fail "arm"))
      all_goals
        go_split_ands
        go_wp2_with fail
        go_meet
        exact ⟨⟨g3, rfl, rfl⟩, by assumption⟩
    case rest =>
      obtain ⟨wx8, rfl⟩ : ∃ W, W = wc := ⟨_, rfl⟩
      obtain ⟨⟨gx, rfl, rfl⟩, hx⟩ := hcut
      have FC8 := Lib.hid (FC7.out.call hx.bl)
      clear hx FC7
      obtain ⟨k0_0, k0_1, kf0, kg0⟩ := (FC8.out.get 2 rfl).two
      have kz0 := (FC8.out.get 2 rfl).lt
      obtain ⟨k1_0, k1_1, k1_2⟩ := (FC8.out.get 1 rfl).three
      have kz1 := (FC8.out.get 1 rfl).lt
      obtain ⟨k2_0, k2_1, k2_2⟩ := (FC8.out.get 0 rfl).three
      have kz2 := (FC8.out.get 0 rfl).lt
      go_wp2_with fail
      refine (BothErr_any s hs ps A c hl b _ (Fr.lies HA.out FC8.out)).mono ?_
      rintro e w3 ⟨rfl, hb3⟩
      rw [H0.out]
      clear k0_0 k0_1 kf0 kg0 kz0 k1_0 k1_1 k1_2 kz1 k2_0 k2_1 k2_2 kz2
      have G3 := Fr.call FC8.out hb3
      obtain ⟨k0_0, k0_1, kf0, kg0⟩ := (G3.get 2 rfl).two
      have kz0 := (G3.get 2 rfl).lt
      obtain ⟨k1_0, k1_1, k1_2⟩ := (G3.get 1 rfl).three
      have kz1 := (G3.get 1 rfl).lt
      obtain ⟨k2_0, k2_1, k2_2⟩ := (G3.get 0 rfl).three
      have kz2 := (G3.get 0 rfl).lt
      have F3 : Hid (Fr w _ [(w.heap.size + 1 + 1, 51, #[.int .i64 p, .int .i64 sq, .int .i64 stop]), (w.heap.size + 1, 26, #[.int .i64 b.brk, .int .i64 b.drag, .int .i64 b.drv]), (w.heap.size, 24, #[.string s, .slice A ps.length c])]) := Lib.hid G3
      clear hb3 G3 FC8
      go_wp2_with fail
      refine (StateErr_any s ps A c (by omega) p sq _).mono ?_
      rintro e w4 ⟨rfl, hb4⟩
      rw [H1.out]
      clear k0_0 k0_1 kf0 kg0 kz0 k1_0 k1_1 k1_2 kz1 k2_0 k2_1 k2_2 kz2
      have G4 := Fr.call F3.out hb4
      obtain ⟨k0_0, k0_1, kf0, kg0⟩ := (G4.get 2 rfl).two
      have kz0 := (G4.get 2 rfl).lt
      obtain ⟨k1_0, k1_1, k1_2⟩ := (G4.get 1 rfl).three
      have kz1 := (G4.get 1 rfl).lt
      obtain ⟨k2_0, k2_1, k2_2⟩ := (G4.get 0 rfl).three
      have kz2 := (G4.get 0 rfl).lt
      have F4 : Hid (Fr w _ [(w.heap.size + 1 + 1, 51, #[.int .i64 p, .int .i64 sq, .int .i64 stop]), (w.heap.size + 1, 26, #[.int .i64 b.brk, .int .i64 b.drag, .int .i64 b.drv]), (w.heap.size, 24, #[.string s, .slice A ps.length c])]) := Lib.hid G4
      clear hb4 G4 F3
      go_wp2_with fail
      refine (StopErr_any s ps A c (by omega) stop _ (Fr.lies HA.out F4.out)).mono ?_
      rintro e w5 ⟨rfl, hb5⟩
      rw [H2.out]
      clear k0_0 k0_1 kf0 kg0 kz0 k1_0 k1_1 k1_2 kz1 k2_0 k2_1 k2_2 kz2
      have G5 := Fr.call F4.out hb5
      obtain ⟨k0_0, k0_1, kf0, kg0⟩ := (G5.get 2 rfl).two
      have kz0 := (G5.get 2 rfl).lt
      obtain ⟨k1_0, k1_1, k1_2⟩ := (G5.get 1 rfl).three
      have kz1 := (G5.get 1 rfl).lt
      obtain ⟨k2_0, k2_1, k2_2⟩ := (G5.get 0 rfl).three
      have kz2 := (G5.get 0 rfl).lt
      have F5 : Hid (Fr w _ [(w.heap.size + 1 + 1, 51, #[.int .i64 p, .int .i64 sq, .int .i64 stop]), (w.heap.size + 1, 26, #[.int .i64 b.brk, .int .i64 b.drag, .int .i64 b.drv]), (w.heap.size, 24, #[.string s, .slice A ps.length c])]) := Lib.hid G5
      clear hb5 G5 F4
      go_wp2_with fail
      go_ret
      exact ⟨rfl, F5.out.bl⟩

set_option maxHeartbeats 8000000 in
set_option maxRecDepth 100000 in
theorem reaches_ok (s : ByteArray) (hs : s.size ≤ maxLen) (ps : List Bp) (A : Option Addr) (c : Nat) (hg : HdOk ⟨A, c⟩) (hl : ps.length ≤ maxLen) (b : Bs) (p k : Nat) (sq : Int) (hsh : shortB s ps = true) (h0 : bothE s ps b = 0) (h1 : stateE ps (p : Int) sq = 0) (h2 : stopE ps (k : Int) = 0) (h3 : orderE (p : Int) (k : Int) = 0) (w : World) (hA : Lies w w.heap.size A (ps.flatMap pc)) : Calls Try.prog 5 #[.agg #[.string s, .slice A ps.length c], .agg #[.int .i64 b.brk, .int .i64 b.drag, .int .i64 b.drv], .agg #[.int .i64 (p : Int), .int .i64 sq, .int .i64 (k : Int)]] w fun e w' => e = .returned (.bool true) ∧ Below w.heap.size w w' := by
  obtain ⟨hok, hb⟩ := bothE_zero h0
  obtain ⟨k2, hk2, hk, hlv⟩ := stopE_ok h2
  obtain rfl : k = k2 := by omega
  clear hk2
  obtain ⟨p2, hp2, _, hq0, hq1⟩ := stateE_ok h1
  clear hp2
  have hpk : p ≤ k := by have := orderE_ok h3; omega
  have hq : 0 ≤ sq ∧ sq ≤ 20000000000 := ⟨hq0, hq1⟩
  have HOK := Lib.hid hok
  have HB := Lib.hid hb
  obtain ⟨a, rfl⟩ := ps_some hA hok.n0
  have hsb : sE b = 0 := by unfold bothE at h0; rw [if_neg (by rw [trE_ok hok]; simp)] at h0; exact h0
  obtain ⟨er, her⟩ : ∃ er, runE ps b k p sq = er := ⟨_, rfl⟩
  obtain ⟨N, hN⟩ : ∃ N : Nat, (if er = 0 then k - p + 1 else 0) = N := ⟨_, rfl⟩
  have hN12 : N ≤ 13 := by rw [← hN]; have := hok.n12; split <;> omega
  have HRE : Hid (∀ (A' : Option Addr) (c' : Nat) (W : World), Lies W W.heap.size A' (ps.flatMap pc) → Calls Try.prog 25 #[.agg #[.string s, .slice A' ps.length c'], .agg #[.int .i64 b.brk, .int .i64 b.drag, .int .i64 b.drv], .agg #[.int .i64 (p : Int), .int .i64 sq], .int .i64 (k : Int)] W fun e w' => e = .returned (.tuple #[.bool (decide (er = 0)), .int .i64 0]) ∧ Below W.heap.size W w') := Lib.hid (fun A' c' W h => by obtain ⟨a', rfl⟩ := ps_some h hok.n0; have := Reaches_ok s hs ps a' c' (by have := hok.n12; omega) b hok hb hsb k p hk hlv hpk sq hq W h; rw [her] at this; exact this)
  have HRT : Hid (∀ (A' : Option Addr) (c' : Nat) (W : World), Lies W W.heap.size A' (ps.flatMap pc) → Calls Try.prog 26 #[.agg #[.string s, .slice A' ps.length c'], .agg #[.int .i64 b.brk, .int .i64 b.drag, .int .i64 b.drv], .agg #[.int .i64 (p : Int), .int .i64 sq], .int .i64 (k : Int)] W fun e w' => ∃ g : Hd, e = .returned (.tuple #[.slice g.A N g.c, .int .i64 er]) ∧ Lies w' w'.heap.size g.A (ic (listF N (runV ps b k p sq))) ∧ Below W.heap.size W w') := Lib.hid (fun A' c' W h => by obtain ⟨a', rfl⟩ := ps_some h hok.n0; have := RunTo_ok s hs ps a' c' (by have := hok.n12; omega) b hok hb hsb k p hk hlv hpk sq hq W h; rw [her] at this; refine this.mono fun _ _ h => ?_; have h2 := rowE_n h; rw [hN] at h2; exact h2)
  have HRR : Hid (∀ (W : World), Lies W W.heap.size (some a) (ps.flatMap pc) → Calls Try.prog 28 #[.agg #[.string s, .slice (some a) ps.length c], .agg #[.int .i64 b.brk, .int .i64 b.drag, .int .i64 b.drv], .agg #[.int .i64 (p : Int), .int .i64 sq], .int .i64 (k : Int)] W fun e w' => ∃ g : Hd, e = .returned (.tuple #[.slice g.A N g.c, .int .i64 er]) ∧ Lies w' w'.heap.size g.A (ic (listF N (runV ps b k p sq))) ∧ Below W.heap.size W w') := Lib.hid (fun W h => by have := refRunTo_any s ps a c b hb hok.n0 hok.n12 hok.each k p hk hpk sq hq W h; rw [her] at this; refine this.mono fun _ _ h => ?_; have h2 := rowE_n h; rw [hN] at h2; exact h2)
  have F0 := Lib.hid (Fr.b3 w 24 #[.string s, .slice (some a) ps.length c] 26 #[.int .i64 b.brk, .int .i64 b.drag, .int .i64 b.drv] 51 #[.int .i64 (p : Int), .int .i64 sq, .int .i64 (k : Int)])
  have HA := Lib.hid hA
  have HG := Lib.hid hg
  clear hA hg
  have HSH := Lib.hid hsh
  have hl14 : ps.length ≤ 14 := (short_iff.1 hsh).2
  clear hsh
  have H0 := Lib.hid h0
  have H1 := Lib.hid h1
  have H2 := Lib.hid h2
  have hpk2 : ¬ (k : Int) < (p : Int) := by omega
  have h12 := hok.n12
  clear hok hb hsb h0 h1 h2 h3 hlv hk hq hq0 hq1 her hN
  go_enter Try.func5, Try.ntmps5
  go_wp2_with fail
  refine (awake_any _).mono ?_
  rintro e w1 ⟨rfl, hb1⟩
  have G1 := Fr.call F0.out hb1
  obtain ⟨k0_0, k0_1, kf0, kg0⟩ := (G1.get 2 rfl).two
  have kz0 := (G1.get 2 rfl).lt
  obtain ⟨k1_0, k1_1, k1_2⟩ := (G1.get 1 rfl).three
  have kz1 := (G1.get 1 rfl).lt
  obtain ⟨k2_0, k2_1, k2_2⟩ := (G1.get 0 rfl).three
  have kz2 := (G1.get 0 rfl).lt
  have F1 : Hid (Fr w _ [(w.heap.size + 1 + 1, 51, #[.int .i64 (p : Int), .int .i64 sq, .int .i64 (k : Int)]), (w.heap.size + 1, 26, #[.int .i64 b.brk, .int .i64 b.drag, .int .i64 b.drv]), (w.heap.size, 24, #[.string s, .slice (some a) ps.length c])]) := Lib.hid G1
  clear hb1 G1 F0
  go_wp2_with fail
  refine (Short_any s hs ps (some a) c hl _).mono ?_
  rintro e w2 ⟨rfl, hb2⟩
  rw [HSH.out]
  clear k0_0 k0_1 kf0 kg0 kz0 k1_0 k1_1 k1_2 kz1 k2_0 k2_1 k2_2 kz2
  have G2 := Fr.call F1.out hb2
  obtain ⟨k0_0, k0_1, kf0, kg0⟩ := (G2.get 2 rfl).two
  have kz0 := (G2.get 2 rfl).lt
  obtain ⟨k1_0, k1_1, k1_2⟩ := (G2.get 1 rfl).three
  have kz1 := (G2.get 1 rfl).lt
  obtain ⟨k2_0, k2_1, k2_2⟩ := (G2.get 0 rfl).three
  have kz2 := (G2.get 0 rfl).lt
  have F2 : Hid (Fr w _ [(w.heap.size + 1 + 1, 51, #[.int .i64 (p : Int), .int .i64 sq, .int .i64 (k : Int)]), (w.heap.size + 1, 26, #[.int .i64 b.brk, .int .i64 b.drag, .int .i64 b.drv]), (w.heap.size, 24, #[.string s, .slice (some a) ps.length c])]) := Lib.hid G2
  clear hb2 G2 F1
  go_upto_region 5 with fail
  clear k0_0 k0_1 kf0 kg0 kz0 k1_0 k1_1 k1_2 kz1 k2_0 k2_1 k2_2 kz2
  go_cut [7, 8] from 19 to 29 (fun r e W => (r = .bool (decide (er = 0)) ∧ e = .int .i64 0) ∧ Fr w2 W [])
  case first =>
    have HALL : Hid (∀ W, Fr w2 W [] → Fr w2 W [] ∧ W.cell? ⟨w.heap.size, 0, none⟩ = some (.string s) ∧ W.cell? ⟨w.heap.size, 1, none⟩ = some (.slice (some a) ps.length c) ∧ W.cell? ⟨w.heap.size + 1, 0, none⟩ = some (.int .i64 b.brk) ∧ W.cell? ⟨w.heap.size + 1, 1, none⟩ = some (.int .i64 b.drag) ∧ W.cell? ⟨w.heap.size + 1, 2, none⟩ = some (.int .i64 b.drv) ∧ W.cell? ⟨w.heap.size + 1 + 1, 0, none⟩ = some (.int .i64 (p : Int)) ∧ W.cell? ⟨w.heap.size + 1 + 1, 1, none⟩ = some (.int .i64 sq) ∧ W.cell? ⟨w.heap.size + 1 + 1, 2, none⟩ = some (.int .i64 (k : Int))) := Lib.hid (fun W hW => ⟨hW, ((F2.out.get 2 rfl).call hW.bl).cell 0, ((F2.out.get 2 rfl).call hW.bl).cell 1, ((F2.out.get 1 rfl).call hW.bl).cell 0, ((F2.out.get 1 rfl).call hW.bl).cell 1, ((F2.out.get 1 rfl).call hW.bl).cell 2, ((F2.out.get 0 rfl).call hW.bl).cell 0, ((F2.out.get 0 rfl).call hW.bl).cell 1, ((F2.out.get 0 rfl).call hW.bl).cell 2⟩)
    have HAC := Lib.hid (Fr.lies HA.out F2.out)
    have F10 : Fr w2 _ [] := Fr.nil w2
    go_region_held3 (fun W => Fr w2 W [] ∧ W.cell? ⟨w.heap.size, 0, none⟩ = some (.string s) ∧ W.cell? ⟨w.heap.size, 1, none⟩ = some (.slice (some a) ps.length c) ∧ W.cell? ⟨w.heap.size + 1, 0, none⟩ = some (.int .i64 b.brk) ∧ W.cell? ⟨w.heap.size + 1, 1, none⟩ = some (.int .i64 b.drag) ∧ W.cell? ⟨w.heap.size + 1, 2, none⟩ = some (.int .i64 b.drv) ∧ W.cell? ⟨w.heap.size + 1 + 1, 0, none⟩ = some (.int .i64 (p : Int)) ∧ W.cell? ⟨w.heap.size + 1 + 1, 1, none⟩ = some (.int .i64 sq) ∧ W.cell? ⟨w.heap.size + 1 + 1, 2, none⟩ = some (.int .i64 (k : Int)))
        ((go_split_ands; refine HALL.out _ ?_; (first | assumption | (repeat (first | assumption | refine Fr.new ?_ _ | refine Fr.drew ?_ | (refine Fr.set ?_ (by first | exact Nat.le_refl _ | omega | (simp; done) | (simp; omega)) (by first | (simp; done) | (simp; omega)) _))); done)))
        ((first
          | (go_at_call 10; go_split_ands; (with_reducible refine (Copy_any s ps ⟨(some a), c⟩ (by omega) HG.out _ (Fr.lies HAC.out (by assumption))).mono ?_); rintro e w1 ⟨g2, rfl, hl2, hk2, hb1⟩; have HL2 := Lib.hid hl2; have F4 := Fr.call (by assumption) hb1; clear hb1 hl2 hk2)
          | (go_at_call 25; go_split_ands; (with_reducible refine (HRE.out _ _ _ HL2.out).mono ?_); rintro e w1 ⟨rfl, hb1⟩; have F5 := Fr.call (by assumption) hb1; clear hb1)
          | fail "arm"))
    all_goals
      go_split_ands
      go_wp2_with fail
      go_meet
      exact ⟨⟨rfl, rfl⟩, by assumption⟩
  case rest =>
    obtain ⟨wx9, rfl⟩ : ∃ W, W = wc := ⟨_, rfl⟩
    obtain ⟨⟨rfl, rfl⟩, hx⟩ := hcut
    have FC9 := Lib.hid (F2.out.call hx.bl)
    clear hx F2
    obtain ⟨k0_0, k0_1, kf0, kg0⟩ := (FC9.out.get 2 rfl).two
    have kz0 := (FC9.out.get 2 rfl).lt
    obtain ⟨k1_0, k1_1, k1_2⟩ := (FC9.out.get 1 rfl).three
    have kz1 := (FC9.out.get 1 rfl).lt
    obtain ⟨k2_0, k2_1, k2_2⟩ := (FC9.out.get 0 rfl).three
    have kz2 := (FC9.out.get 0 rfl).lt
    go_upto_region 6 with fail
    clear k0_0 k0_1 kf0 kg0 kz0 k1_0 k1_1 k1_2 kz1 k2_0 k2_1 k2_2 kz2
    go_cut [9, 10] from 30 to 40 (fun r e W => (∃ g : Hd, r = .slice g.A N g.c ∧ e = .int .i64 er ∧ Lies W W.heap.size g.A (ic (listF N (runV ps b k p sq)))) ∧ Fr wx9 W [])
    case first =>
      have HALL : Hid (∀ W, Fr wx9 W [] → Fr wx9 W [] ∧ W.cell? ⟨w.heap.size, 0, none⟩ = some (.string s) ∧ W.cell? ⟨w.heap.size, 1, none⟩ = some (.slice (some a) ps.length c) ∧ W.cell? ⟨w.heap.size + 1, 0, none⟩ = some (.int .i64 b.brk) ∧ W.cell? ⟨w.heap.size + 1, 1, none⟩ = some (.int .i64 b.drag) ∧ W.cell? ⟨w.heap.size + 1, 2, none⟩ = some (.int .i64 b.drv) ∧ W.cell? ⟨w.heap.size + 1 + 1, 0, none⟩ = some (.int .i64 (p : Int)) ∧ W.cell? ⟨w.heap.size + 1 + 1, 1, none⟩ = some (.int .i64 sq) ∧ W.cell? ⟨w.heap.size + 1 + 1, 2, none⟩ = some (.int .i64 (k : Int))) := Lib.hid (fun W hW => ⟨hW, ((FC9.out.get 2 rfl).call hW.bl).cell 0, ((FC9.out.get 2 rfl).call hW.bl).cell 1, ((FC9.out.get 1 rfl).call hW.bl).cell 0, ((FC9.out.get 1 rfl).call hW.bl).cell 1, ((FC9.out.get 1 rfl).call hW.bl).cell 2, ((FC9.out.get 0 rfl).call hW.bl).cell 0, ((FC9.out.get 0 rfl).call hW.bl).cell 1, ((FC9.out.get 0 rfl).call hW.bl).cell 2⟩)
      have HAC := Lib.hid (Fr.lies HA.out FC9.out)
      have F10 : Fr wx9 _ [] := Fr.nil wx9
      go_region_held3 (fun W => Fr wx9 W [] ∧ W.cell? ⟨w.heap.size, 0, none⟩ = some (.string s) ∧ W.cell? ⟨w.heap.size, 1, none⟩ = some (.slice (some a) ps.length c) ∧ W.cell? ⟨w.heap.size + 1, 0, none⟩ = some (.int .i64 b.brk) ∧ W.cell? ⟨w.heap.size + 1, 1, none⟩ = some (.int .i64 b.drag) ∧ W.cell? ⟨w.heap.size + 1, 2, none⟩ = some (.int .i64 b.drv) ∧ W.cell? ⟨w.heap.size + 1 + 1, 0, none⟩ = some (.int .i64 (p : Int)) ∧ W.cell? ⟨w.heap.size + 1 + 1, 1, none⟩ = some (.int .i64 sq) ∧ W.cell? ⟨w.heap.size + 1 + 1, 2, none⟩ = some (.int .i64 (k : Int)))
          ((go_split_ands; refine HALL.out _ ?_; (first | assumption | (repeat (first | assumption | refine Fr.new ?_ _ | refine Fr.drew ?_ | (refine Fr.set ?_ (by first | exact Nat.le_refl _ | omega | (simp; done) | (simp; omega)) (by first | (simp; done) | (simp; omega)) _))); done)))
          ((first
            | (go_at_call 10; go_split_ands; (with_reducible refine (Copy_any s ps ⟨(some a), c⟩ (by omega) HG.out _ (Fr.lies HAC.out (by assumption))).mono ?_); rintro e w1 ⟨g2, rfl, hl2, hk2, hb1⟩; have HL2 := Lib.hid hl2; have F4 := Fr.call (by assumption) hb1; clear hb1 hl2 hk2)
            | (go_at_call 26; go_split_ands; (with_reducible refine (HRT.out _ _ _ HL2.out).mono ?_); rintro e w1 ⟨g3, rfl, hl3, hb1⟩; have HL3 := Lib.hid hl3; have F5 := Fr.call (by assumption) hb1; clear hb1 hl3)
            | fail "arm"))
      all_goals
        go_split_ands
        go_wp2_with fail
        go_meet
        exact ⟨⟨g3, rfl, rfl, HL3.out⟩, by assumption⟩
    case rest =>
      obtain ⟨wx10, rfl⟩ : ∃ W, W = wc := ⟨_, rfl⟩
      obtain ⟨⟨gx, rfl, rfl, hy⟩, hx⟩ := hcut
      have FC10 := Lib.hid (FC9.out.call hx.bl)
      clear hx FC9
      obtain ⟨k0_0, k0_1, kf0, kg0⟩ := (FC10.out.get 2 rfl).two
      have kz0 := (FC10.out.get 2 rfl).lt
      obtain ⟨k1_0, k1_1, k1_2⟩ := (FC10.out.get 1 rfl).three
      have kz1 := (FC10.out.get 1 rfl).lt
      obtain ⟨k2_0, k2_1, k2_2⟩ := (FC10.out.get 0 rfl).three
      have kz2 := (FC10.out.get 0 rfl).lt
      have Y := Lib.hid hy
      clear hy
      go_wp2_with fail
      refine (BothErr_any s hs ps (some a) c hl b _ (Fr.lies HA.out FC10.out)).mono ?_
      rintro e w3 ⟨rfl, hb3⟩
      rw [H0.out]
      clear k0_0 k0_1 kf0 kg0 kz0 k1_0 k1_1 k1_2 kz1 k2_0 k2_1 k2_2 kz2
      have G3 := Fr.call FC10.out hb3
      have Y := Lib.hid (Lies.call Y.out hb3)
      obtain ⟨k0_0, k0_1, kf0, kg0⟩ := (G3.get 2 rfl).two
      have kz0 := (G3.get 2 rfl).lt
      obtain ⟨k1_0, k1_1, k1_2⟩ := (G3.get 1 rfl).three
      have kz1 := (G3.get 1 rfl).lt
      obtain ⟨k2_0, k2_1, k2_2⟩ := (G3.get 0 rfl).three
      have kz2 := (G3.get 0 rfl).lt
      have F3 : Hid (Fr w _ [(w.heap.size + 1 + 1, 51, #[.int .i64 (p : Int), .int .i64 sq, .int .i64 (k : Int)]), (w.heap.size + 1, 26, #[.int .i64 b.brk, .int .i64 b.drag, .int .i64 b.drv]), (w.heap.size, 24, #[.string s, .slice (some a) ps.length c])]) := Lib.hid G3
      clear hb3 G3 FC10
      go_wp2_with fail
      refine (StateErr_any s ps (some a) c (by omega) (p : Int) sq _).mono ?_
      rintro e w4 ⟨rfl, hb4⟩
      rw [H1.out]
      clear k0_0 k0_1 kf0 kg0 kz0 k1_0 k1_1 k1_2 kz1 k2_0 k2_1 k2_2 kz2
      have G4 := Fr.call F3.out hb4
      have Y := Lib.hid (Lies.call Y.out hb4)
      obtain ⟨k0_0, k0_1, kf0, kg0⟩ := (G4.get 2 rfl).two
      have kz0 := (G4.get 2 rfl).lt
      obtain ⟨k1_0, k1_1, k1_2⟩ := (G4.get 1 rfl).three
      have kz1 := (G4.get 1 rfl).lt
      obtain ⟨k2_0, k2_1, k2_2⟩ := (G4.get 0 rfl).three
      have kz2 := (G4.get 0 rfl).lt
      have F4 : Hid (Fr w _ [(w.heap.size + 1 + 1, 51, #[.int .i64 (p : Int), .int .i64 sq, .int .i64 (k : Int)]), (w.heap.size + 1, 26, #[.int .i64 b.brk, .int .i64 b.drag, .int .i64 b.drv]), (w.heap.size, 24, #[.string s, .slice (some a) ps.length c])]) := Lib.hid G4
      clear hb4 G4 F3
      go_wp2_with fail
      refine (StopErr_any s ps (some a) c (by omega) (k : Int) _ (Fr.lies HA.out F4.out)).mono ?_
      rintro e w5 ⟨rfl, hb5⟩
      rw [H2.out]
      clear k0_0 k0_1 kf0 kg0 kz0 k1_0 k1_1 k1_2 kz1 k2_0 k2_1 k2_2 kz2
      have G5 := Fr.call F4.out hb5
      have Y := Lib.hid (Lies.call Y.out hb5)
      obtain ⟨k0_0, k0_1, kf0, kg0⟩ := (G5.get 2 rfl).two
      have kz0 := (G5.get 2 rfl).lt
      obtain ⟨k1_0, k1_1, k1_2⟩ := (G5.get 1 rfl).three
      have kz1 := (G5.get 1 rfl).lt
      obtain ⟨k2_0, k2_1, k2_2⟩ := (G5.get 0 rfl).three
      have kz2 := (G5.get 0 rfl).lt
      have F5 : Hid (Fr w _ [(w.heap.size + 1 + 1, 51, #[.int .i64 (p : Int), .int .i64 sq, .int .i64 (k : Int)]), (w.heap.size + 1, 26, #[.int .i64 b.brk, .int .i64 b.drag, .int .i64 b.drv]), (w.heap.size, 24, #[.string s, .slice (some a) ps.length c])]) := Lib.hid G5
      clear hb5 G5 F4
      go_wp2_with fail
      refine (HRR.out _ (Fr.lies HA.out F5.out)).mono ?_
      rintro e w6 ⟨gq, rfl, hz, hb6⟩
      clear k0_0 k0_1 kf0 kg0 kz0 k1_0 k1_1 k1_2 kz1 k2_0 k2_1 k2_2 kz2
      have G6 := Fr.call F5.out hb6
      have Z := Lib.hid hz
      have Y := Lib.hid (Lies.call Y.out hb6)
      obtain ⟨k0_0, k0_1, kf0, kg0⟩ := (G6.get 2 rfl).two
      have kz0 := (G6.get 2 rfl).lt
      obtain ⟨k1_0, k1_1, k1_2⟩ := (G6.get 1 rfl).three
      have kz1 := (G6.get 1 rfl).lt
      obtain ⟨k2_0, k2_1, k2_2⟩ := (G6.get 0 rfl).three
      have kz2 := (G6.get 0 rfl).lt
      have F6 : Hid (Fr w _ [(w.heap.size + 1 + 1, 51, #[.int .i64 (p : Int), .int .i64 sq, .int .i64 (k : Int)]), (w.heap.size + 1, 26, #[.int .i64 b.brk, .int .i64 b.drag, .int .i64 b.drv]), (w.heap.size, 24, #[.string s, .slice (some a) ps.length c])]) := Lib.hid G6
      clear hb6 G6 F5
      clear hz
      by_cases he0 : er = 0
      · have gd : decide (er = 0) = true := decide_eq_true he0
        have ge : (er == 0) = true := by simp [he0]
        rw [gd]
        clear gd he0
        go_wp2_with fail
        refine (Ints_listF N (runV ps b k p sq) (by omega) _ _ _ _ _ Y.out Z.out).mono ?_
        rintro e w7 ⟨rfl, hb7⟩
        clear k0_0 k0_1 kf0 kg0 kz0 k1_0 k1_1 k1_2 kz1 k2_0 k2_1 k2_2 kz2
        have G7 := Fr.call F6.out hb7
        obtain ⟨k0_0, k0_1, kf0, kg0⟩ := (G7.get 2 rfl).two
        have kz0 := (G7.get 2 rfl).lt
        obtain ⟨k1_0, k1_1, k1_2⟩ := (G7.get 1 rfl).three
        have kz1 := (G7.get 1 rfl).lt
        obtain ⟨k2_0, k2_1, k2_2⟩ := (G7.get 0 rfl).three
        have kz2 := (G7.get 0 rfl).lt
        have F7 : Hid (Fr w _ [(w.heap.size + 1 + 1, 51, #[.int .i64 (p : Int), .int .i64 sq, .int .i64 (k : Int)]), (w.heap.size + 1, 26, #[.int .i64 b.brk, .int .i64 b.drag, .int .i64 b.drv]), (w.heap.size, 24, #[.string s, .slice (some a) ps.length c])]) := Lib.hid G7
        clear hb7 G7 F6
        go_wp2_with fail
        go_ret
        exact ⟨rfl, F7.out.bl⟩
      · have gd : decide (er = 0) = false := decide_eq_false he0
        have ge : (er == 0) = false := by simp [he0]
        rw [gd]
        clear gd he0
        go_wp2_with fail
        refine (Ints_listF N (runV ps b k p sq) (by omega) _ _ _ _ _ Y.out Z.out).mono ?_
        rintro e w7 ⟨rfl, hb7⟩
        clear k0_0 k0_1 kf0 kg0 kz0 k1_0 k1_1 k1_2 kz1 k2_0 k2_1 k2_2 kz2
        have G7 := Fr.call F6.out hb7
        obtain ⟨k0_0, k0_1, kf0, kg0⟩ := (G7.get 2 rfl).two
        have kz0 := (G7.get 2 rfl).lt
        obtain ⟨k1_0, k1_1, k1_2⟩ := (G7.get 1 rfl).three
        have kz1 := (G7.get 1 rfl).lt
        obtain ⟨k2_0, k2_1, k2_2⟩ := (G7.get 0 rfl).three
        have kz2 := (G7.get 0 rfl).lt
        have F7 : Hid (Fr w _ [(w.heap.size + 1 + 1, 51, #[.int .i64 (p : Int), .int .i64 sq, .int .i64 (k : Int)]), (w.heap.size + 1, 26, #[.int .i64 b.brk, .int .i64 b.drag, .int .i64 b.drv]), (w.heap.size, 24, #[.string s, .slice (some a) ps.length c])]) := Lib.hid G7
        clear hb7 G7 F6
        go_wp2_with fail
        go_ret
        exact ⟨rfl, F7.out.bl⟩

set_option maxHeartbeats 8000000 in
set_option maxRecDepth 100000 in
theorem BrakeReaches_any (s : ByteArray) (hs : s.size ≤ maxLen) (ps : List Bp) (A : Option Addr) (c : Nat) (hg : HdOk ⟨A, c⟩) (hl : ps.length ≤ maxLen) (b : Bs) (p sq stop : Int) (w : World) (hA : Lies w w.heap.size A (ps.flatMap pc)) : Calls Try.prog 5 #[.agg #[.string s, .slice A ps.length c], .agg #[.int .i64 b.brk, .int .i64 b.drag, .int .i64 b.drv], .agg #[.int .i64 p, .int .i64 sq, .int .i64 stop]] w fun e w' => e = .returned (.bool true) ∧ Below w.heap.size w w' := by
  cases hsh : shortB s ps with
  | false => exact reaches_long s hs ps A c hg hl b p sq stop hsh w hA
  | true =>
    by_cases h0 : bothE s ps b = 0
    · by_cases h1 : stateE ps p sq = 0
      · by_cases h2 : stopE ps stop = 0
        · by_cases h3 : orderE p stop = 0
          · obtain ⟨k, rfl, _⟩ := stopE_ok h2
            obtain ⟨q, rfl, _⟩ := stateE_ok h1
            exact reaches_ok s hs ps A c hg hl b q k sq hsh h0 h1 h2 h3 w hA
          · exact reaches_bad3 s hs ps A c hg hl b p sq stop hsh _ h3 h0 h1 h2 rfl w hA
        · exact reaches_bad2 s hs ps A c hg hl b p sq stop hsh _ h2 h0 h1 rfl w hA
      · exact reaches_bad1 s hs ps A c hg hl b p sq stop hsh _ h1 h0 rfl w hA
    · exact reaches_bad0 s hs ps A c hg hl b p sq stop hsh _ h0 rfl w hA
end Go.Proofs.Ytlmfpodajmmdeaa
