
/-
  The walk of BrakeCurves.
-/
import Derived.Test.YtlmfpodajmmdeaaBKit
import Derived.Test.YtlmfpodajmmdeaaBRef
namespace Go.Proofs.Ytlmfpodajmmdeaa
open Go.RowKit

set_option maxHeartbeats 8000000 in
set_option maxRecDepth 100000 in
theorem curves_long (s : ByteArray) (hs : s.size ≤ maxLen) (ps : List Bp) (A : Option Addr) (c : Nat) (hg : HdOk ⟨A, c⟩) (hl : ps.length ≤ maxLen) (b : Bs) (stop : Int) (hsh : shortB s ps = false) (w : World) (hA : Lies w w.heap.size A (ps.flatMap pc)) : Calls Try.prog 4 #[.agg #[.string s, .slice A ps.length c], .agg #[.int .i64 b.brk, .int .i64 b.drag, .int .i64 b.drv], .int .i64 stop] w fun e w' => e = .returned (.bool true) ∧ Below w.heap.size w w' := by
  have F0 := Lib.hid (Fr.b2 w 24 #[.string s, .slice A ps.length c] 26 #[.int .i64 b.brk, .int .i64 b.drag, .int .i64 b.drv])
  have HA := Lib.hid hA
  have HG := Lib.hid hg
  clear hA hg
  have HSH := Lib.hid hsh
  clear hsh
  go_enter Try.func4, Try.ntmps4
  go_wp2_with fail
  refine (awake_any _).mono ?_
  rintro e w1 ⟨rfl, hb1⟩
  have G1 := Fr.call F0.out hb1
  obtain ⟨k0_0, k0_1, kf0, kg0⟩ := (G1.get 1 rfl).two
  have kz0 := (G1.get 1 rfl).lt
  obtain ⟨k1_0, k1_1, k1_2⟩ := (G1.get 0 rfl).three
  have kz1 := (G1.get 0 rfl).lt
  have F1 : Hid (Fr w _ [(w.heap.size + 1, 26, #[.int .i64 b.brk, .int .i64 b.drag, .int .i64 b.drv]), (w.heap.size, 24, #[.string s, .slice A ps.length c])]) := Lib.hid G1
  clear hb1 G1 F0
  go_wp2_with fail
  refine (Short_any s hs ps A c hl _).mono ?_
  rintro e w2 ⟨rfl, hb2⟩
  rw [HSH.out]
  clear k0_0 k0_1 kf0 kg0 kz0 k1_0 k1_1 k1_2 kz1
  have G2 := Fr.call F1.out hb2
  obtain ⟨k0_0, k0_1, kf0, kg0⟩ := (G2.get 1 rfl).two
  have kz0 := (G2.get 1 rfl).lt
  obtain ⟨k1_0, k1_1, k1_2⟩ := (G2.get 0 rfl).three
  have kz1 := (G2.get 0 rfl).lt
  have F2 : Hid (Fr w _ [(w.heap.size + 1, 26, #[.int .i64 b.brk, .int .i64 b.drag, .int .i64 b.drv]), (w.heap.size, 24, #[.string s, .slice A ps.length c])]) := Lib.hid G2
  clear hb2 G2 F1
  go_wp2_with fail
  go_ret
  exact ⟨rfl, F2.out.bl⟩

set_option maxHeartbeats 8000000 in
set_option maxRecDepth 100000 in
theorem curves_bad1 (s : ByteArray) (hs : s.size ≤ maxLen) (ps : List Bp) (A : Option Addr) (c : Nat) (hg : HdOk ⟨A, c⟩) (hl : ps.length ≤ maxLen) (b : Bs) (stop : Int) (hsh : shortB s ps = true) (er : Int) (he : bothE s ps b = er) (hr : er ≠ 0) (w : World) (hA : Lies w w.heap.size A (ps.flatMap pc)) : Calls Try.prog 4 #[.agg #[.string s, .slice A ps.length c], .agg #[.int .i64 b.brk, .int .i64 b.drag, .int .i64 b.drv], .int .i64 stop] w fun e w' => e = .returned (.bool true) ∧ Below w.heap.size w w' := by
  have F0 := Lib.hid (Fr.b2 w 24 #[.string s, .slice A ps.length c] 26 #[.int .i64 b.brk, .int .i64 b.drag, .int .i64 b.drv])
  have HA := Lib.hid hA
  have HG := Lib.hid hg
  clear hA hg
  have HSH := Lib.hid hsh
  have hl14 : ps.length ≤ 14 := (short_iff.1 hsh).2
  clear hsh
  have hnz : nz ((trE s ps).2 :: sE b :: [stopE ps stop]) = er := by rw [bothE_nz, if_neg (by rw [he]; exact hr), he]
  have HCU : Hid (∀ (A' : Option Addr) (c' : Nat) (W : World), Lies W W.heap.size A' (ps.flatMap pc) → Calls Try.prog 19 #[.agg #[.string s, .slice A' ps.length c'], .agg #[.int .i64 b.brk, .int .i64 b.drag, .int .i64 b.drv], .int .i64 stop] W fun e w' => ∃ g : Hd, e = .returned (.tuple #[.slice g.A 0 g.c, .int .i64 er]) ∧ Below W.heap.size W w') := Lib.hid (fun A' c' W h => (CurveOf_bad s hs ps A' c' (by omega) b stop er hnz hr W h).mono fun _ _ h => rowE_bad hr h)
  have HLS : Hid (∀ (A' : Option Addr) (c' : Nat) (W : World), Lies W W.heap.size A' (ps.flatMap pc) → Calls Try.prog 20 #[.agg #[.string s, .slice A' ps.length c'], .agg #[.int .i64 b.brk, .int .i64 b.drag, .int .i64 b.drv], .int .i64 stop] W fun e w' => ∃ g : Hd, e = .returned (.tuple #[.slice g.A 0 g.c, .int .i64 er]) ∧ Below W.heap.size W w') := Lib.hid (fun A' c' W h => (LeastOf_bad s hs ps A' c' (by omega) b stop er hnz hr W h).mono fun _ _ h => rowE_bad hr h)
  have HE := Lib.hid he
  have ge : (er == 0) = false := by simp [hr]
  have gn : (er != 0) = true := by simp [hr]
  clear he hr hnz
  go_enter Try.func4, Try.ntmps4
  go_wp2_with fail
  refine (awake_any _).mono ?_
  rintro e w1 ⟨rfl, hb1⟩
  have G1 := Fr.call F0.out hb1
  obtain ⟨k0_0, k0_1, kf0, kg0⟩ := (G1.get 1 rfl).two
  have kz0 := (G1.get 1 rfl).lt
  obtain ⟨k1_0, k1_1, k1_2⟩ := (G1.get 0 rfl).three
  have kz1 := (G1.get 0 rfl).lt
  have F1 : Hid (Fr w _ [(w.heap.size + 1, 26, #[.int .i64 b.brk, .int .i64 b.drag, .int .i64 b.drv]), (w.heap.size, 24, #[.string s, .slice A ps.length c])]) := Lib.hid G1
  clear hb1 G1 F0
  go_wp2_with fail
  refine (Short_any s hs ps A c hl _).mono ?_
  rintro e w2 ⟨rfl, hb2⟩
  rw [HSH.out]
  clear k0_0 k0_1 kf0 kg0 kz0 k1_0 k1_1 k1_2 kz1
  have G2 := Fr.call F1.out hb2
  obtain ⟨k0_0, k0_1, kf0, kg0⟩ := (G2.get 1 rfl).two
  have kz0 := (G2.get 1 rfl).lt
  obtain ⟨k1_0, k1_1, k1_2⟩ := (G2.get 0 rfl).three
  have kz1 := (G2.get 0 rfl).lt
  have F2 : Hid (Fr w _ [(w.heap.size + 1, 26, #[.int .i64 b.brk, .int .i64 b.drag, .int .i64 b.drv]), (w.heap.size, 24, #[.string s, .slice A ps.length c])]) := Lib.hid G2
  clear hb2 G2 F1
  go_upto_region 5 with fail
  clear k0_0 k0_1 kf0 kg0 kz0 k1_0 k1_1 k1_2 kz1
  go_cut [7, 8] from 17 to 24 (fun r e W => (∃ g : Hd, r = .slice g.A 0 g.c ∧ e = .int .i64 er) ∧ Fr w2 W [])
  case first =>
    have HALL : Hid (∀ W, Fr w2 W [] → Fr w2 W [] ∧ W.cell? ⟨w.heap.size, 0, none⟩ = some (.string s) ∧ W.cell? ⟨w.heap.size, 1, none⟩ = some (.slice A ps.length c) ∧ W.cell? ⟨w.heap.size + 1, 0, none⟩ = some (.int .i64 b.brk) ∧ W.cell? ⟨w.heap.size + 1, 1, none⟩ = some (.int .i64 b.drag) ∧ W.cell? ⟨w.heap.size + 1, 2, none⟩ = some (.int .i64 b.drv)) := Lib.hid (fun W hW => ⟨hW, ((F2.out.get 1 rfl).call hW.bl).cell 0, ((F2.out.get 1 rfl).call hW.bl).cell 1, ((F2.out.get 0 rfl).call hW.bl).cell 0, ((F2.out.get 0 rfl).call hW.bl).cell 1, ((F2.out.get 0 rfl).call hW.bl).cell 2⟩)
    have HAC := Lib.hid (Fr.lies HA.out F2.out)
    have F10 : Fr w2 _ [] := Fr.nil w2
    go_region_held3 (fun W => Fr w2 W [] ∧ W.cell? ⟨w.heap.size, 0, none⟩ = some (.string s) ∧ W.cell? ⟨w.heap.size, 1, none⟩ = some (.slice A ps.length c) ∧ W.cell? ⟨w.heap.size + 1, 0, none⟩ = some (.int .i64 b.brk) ∧ W.cell? ⟨w.heap.size + 1, 1, none⟩ = some (.int .i64 b.drag) ∧ W.cell? ⟨w.heap.size + 1, 2, none⟩ = some (.int .i64 b.drv))
        ((go_split_ands; refine HALL.out _ ?_; (first | assumption | (repeat (first | assumption | refine Fr.new ?_ _ | refine Fr.drew ?_ | (refine Fr.set ?_ (by first | exact Nat.le_refl _ | omega | (simp; done) | (simp; omega)) (by first | (simp; done) | (simp; omega)) _))); done)))
        ((first
          | (go_at_call 10; go_split_ands; (with_reducible refine (Copy_any s ps ⟨A, c⟩ (by omega) HG.out _ (Fr.lies HAC.out (by assumption))).mono ?_); rintro e w1 ⟨g2, rfl, hl2, hk2, hb1⟩; have HL2 := Lib.hid hl2; have F4 := Fr.call (by assumption) hb1; clear hb1 hl2 hk2)
          | (go_at_call 19; go_split_ands; (with_reducible refine (HCU.out _ _ _ HL2.out).mono ?_); rintro e w1 ⟨g3, rfl, hb1⟩; have F5 := Fr.call (by assumption) hb1; clear hb1)
          | fail "arm"))
    all_goals
      go_split_ands
      go_wp2_with fail
      go_meet
      exact ⟨⟨g3, rfl, rfl⟩, by assumption⟩
  case rest =>
    obtain ⟨wx1, rfl⟩ : ∃ W, W = wc := ⟨_, rfl⟩
    obtain ⟨⟨gx5, rfl, rfl⟩, hx⟩ := hcut
    have FC1 := Lib.hid (F2.out.call hx.bl)
    clear hx F2
    obtain ⟨k0_0, k0_1, kf0, kg0⟩ := (FC1.out.get 1 rfl).two
    have kz0 := (FC1.out.get 1 rfl).lt
    obtain ⟨k1_0, k1_1, k1_2⟩ := (FC1.out.get 0 rfl).three
    have kz1 := (FC1.out.get 0 rfl).lt
    go_upto_region 6 with fail
    clear k0_0 k0_1 kf0 kg0 kz0 k1_0 k1_1 k1_2 kz1
    go_cut [9, 10] from 25 to 32 (fun r e W => (∃ g : Hd, r = .slice g.A 0 g.c ∧ e = .int .i64 er) ∧ Fr wx1 W [])
    case first =>
      have HALL : Hid (∀ W, Fr wx1 W [] → Fr wx1 W [] ∧ W.cell? ⟨w.heap.size, 0, none⟩ = some (.string s) ∧ W.cell? ⟨w.heap.size, 1, none⟩ = some (.slice A ps.length c) ∧ W.cell? ⟨w.heap.size + 1, 0, none⟩ = some (.int .i64 b.brk) ∧ W.cell? ⟨w.heap.size + 1, 1, none⟩ = some (.int .i64 b.drag) ∧ W.cell? ⟨w.heap.size + 1, 2, none⟩ = some (.int .i64 b.drv)) := Lib.hid (fun W hW => ⟨hW, ((FC1.out.get 1 rfl).call hW.bl).cell 0, ((FC1.out.get 1 rfl).call hW.bl).cell 1, ((FC1.out.get 0 rfl).call hW.bl).cell 0, ((FC1.out.get 0 rfl).call hW.bl).cell 1, ((FC1.out.get 0 rfl).call hW.bl).cell 2⟩)
      have HAC := Lib.hid (Fr.lies HA.out FC1.out)
      have F10 : Fr wx1 _ [] := Fr.nil wx1
      go_region_held3 (fun W => Fr wx1 W [] ∧ W.cell? ⟨w.heap.size, 0, none⟩ = some (.string s) ∧ W.cell? ⟨w.heap.size, 1, none⟩ = some (.slice A ps.length c) ∧ W.cell? ⟨w.heap.size + 1, 0, none⟩ = some (.int .i64 b.brk) ∧ W.cell? ⟨w.heap.size + 1, 1, none⟩ = some (.int .i64 b.drag) ∧ W.cell? ⟨w.heap.size + 1, 2, none⟩ = some (.int .i64 b.drv))
          ((go_split_ands; refine HALL.out _ ?_; (first | assumption | (repeat (first | assumption | refine Fr.new ?_ _ | refine Fr.drew ?_ | (refine Fr.set ?_ (by first | exact Nat.le_refl _ | omega | (simp; done) | (simp; omega)) (by first | (simp; done) | (simp; omega)) _))); done)))
          ((first
            | (go_at_call 10; go_split_ands; (with_reducible refine (Copy_any s ps ⟨A, c⟩ (by omega) HG.out _ (Fr.lies HAC.out (by assumption))).mono ?_); rintro e w1 ⟨g2, rfl, hl2, hk2, hb1⟩; have HL2 := Lib.hid hl2; have F4 := Fr.call (by assumption) hb1; clear hb1 hl2 hk2)
            | (go_at_call 20; go_split_ands; (with_reducible refine (HLS.out _ _ _ HL2.out).mono ?_); rintro e w1 ⟨g3, rfl, hb1⟩; have F5 := Fr.call (by assumption) hb1; clear hb1)
            | fail "arm"))
      all_goals
        go_split_ands
        go_wp2_with fail
        go_meet
        exact ⟨⟨g3, rfl, rfl⟩, by assumption⟩
    case rest =>
      obtain ⟨wx2, rfl⟩ : ∃ W, W = wc := ⟨_, rfl⟩
      obtain ⟨⟨gx6, rfl, rfl⟩, hx⟩ := hcut
      have FC2 := Lib.hid (FC1.out.call hx.bl)
      clear hx FC1
      obtain ⟨k0_0, k0_1, kf0, kg0⟩ := (FC2.out.get 1 rfl).two
      have kz0 := (FC2.out.get 1 rfl).lt
      obtain ⟨k1_0, k1_1, k1_2⟩ := (FC2.out.get 0 rfl).three
      have kz1 := (FC2.out.get 0 rfl).lt
      go_wp2_with fail
      refine (BothErr_any s hs ps A c hl b _ (Fr.lies HA.out FC2.out)).mono ?_
      rintro e w3 ⟨rfl, hb3⟩
      rw [HE.out]
      clear k0_0 k0_1 kf0 kg0 kz0 k1_0 k1_1 k1_2 kz1
      have G3 := Fr.call FC2.out hb3
      obtain ⟨k0_0, k0_1, kf0, kg0⟩ := (G3.get 1 rfl).two
      have kz0 := (G3.get 1 rfl).lt
      obtain ⟨k1_0, k1_1, k1_2⟩ := (G3.get 0 rfl).three
      have kz1 := (G3.get 0 rfl).lt
      have F3 : Hid (Fr w _ [(w.heap.size + 1, 26, #[.int .i64 b.brk, .int .i64 b.drag, .int .i64 b.drv]), (w.heap.size, 24, #[.string s, .slice A ps.length c])]) := Lib.hid G3
      clear hb3 G3 FC2
      go_wp2_with fail
      go_ret
      exact ⟨rfl, F3.out.bl⟩

set_option maxHeartbeats 8000000 in
set_option maxRecDepth 100000 in
theorem curves_bad2 (s : ByteArray) (hs : s.size ≤ maxLen) (ps : List Bp) (A : Option Addr) (c : Nat) (hg : HdOk ⟨A, c⟩) (hl : ps.length ≤ maxLen) (b : Bs) (stop : Int) (hsh : shortB s ps = true) (h0 : bothE s ps b = 0) (er : Int) (he : stopE ps stop = er) (hr : er ≠ 0) (w : World) (hA : Lies w w.heap.size A (ps.flatMap pc)) : Calls Try.prog 4 #[.agg #[.string s, .slice A ps.length c], .agg #[.int .i64 b.brk, .int .i64 b.drag, .int .i64 b.drv], .int .i64 stop] w fun e w' => e = .returned (.bool true) ∧ Below w.heap.size w w' := by
  have F0 := Lib.hid (Fr.b2 w 24 #[.string s, .slice A ps.length c] 26 #[.int .i64 b.brk, .int .i64 b.drag, .int .i64 b.drv])
  have HA := Lib.hid hA
  have HG := Lib.hid hg
  clear hA hg
  have HSH := Lib.hid hsh
  have hl14 : ps.length ≤ 14 := (short_iff.1 hsh).2
  clear hsh
  have hnz : nz ((trE s ps).2 :: sE b :: [stopE ps stop]) = er := by rw [bothE_nz, if_pos h0, he, nz_one]
  have HCU : Hid (∀ (A' : Option Addr) (c' : Nat) (W : World), Lies W W.heap.size A' (ps.flatMap pc) → Calls Try.prog 19 #[.agg #[.string s, .slice A' ps.length c'], .agg #[.int .i64 b.brk, .int .i64 b.drag, .int .i64 b.drv], .int .i64 stop] W fun e w' => ∃ g : Hd, e = .returned (.tuple #[.slice g.A 0 g.c, .int .i64 er]) ∧ Below W.heap.size W w') := Lib.hid (fun A' c' W h => (CurveOf_bad s hs ps A' c' (by omega) b stop er hnz hr W h).mono fun _ _ h => rowE_bad hr h)
  have HLS : Hid (∀ (A' : Option Addr) (c' : Nat) (W : World), Lies W W.heap.size A' (ps.flatMap pc) → Calls Try.prog 20 #[.agg #[.string s, .slice A' ps.length c'], .agg #[.int .i64 b.brk, .int .i64 b.drag, .int .i64 b.drv], .int .i64 stop] W fun e w' => ∃ g : Hd, e = .returned (.tuple #[.slice g.A 0 g.c, .int .i64 er]) ∧ Below W.heap.size W w') := Lib.hid (fun A' c' W h => (LeastOf_bad s hs ps A' c' (by omega) b stop er hnz hr W h).mono fun _ _ h => rowE_bad hr h)
  have HE := Lib.hid he
  have H0 := Lib.hid h0
  have ge : (er == 0) = false := by simp [hr]
  have gn : (er != 0) = true := by simp [hr]
  clear he hr hnz h0
  go_enter Try.func4, Try.ntmps4
  go_wp2_with fail
  refine (awake_any _).mono ?_
  rintro e w1 ⟨rfl, hb1⟩
  have G1 := Fr.call F0.out hb1
  obtain ⟨k0_0, k0_1, kf0, kg0⟩ := (G1.get 1 rfl).two
  have kz0 := (G1.get 1 rfl).lt
  obtain ⟨k1_0, k1_1, k1_2⟩ := (G1.get 0 rfl).three
  have kz1 := (G1.get 0 rfl).lt
  have F1 : Hid (Fr w _ [(w.heap.size + 1, 26, #[.int .i64 b.brk, .int .i64 b.drag, .int .i64 b.drv]), (w.heap.size, 24, #[.string s, .slice A ps.length c])]) := Lib.hid G1
  clear hb1 G1 F0
  go_wp2_with fail
  refine (Short_any s hs ps A c hl _).mono ?_
  rintro e w2 ⟨rfl, hb2⟩
  rw [HSH.out]
  clear k0_0 k0_1 kf0 kg0 kz0 k1_0 k1_1 k1_2 kz1
  have G2 := Fr.call F1.out hb2
  obtain ⟨k0_0, k0_1, kf0, kg0⟩ := (G2.get 1 rfl).two
  have kz0 := (G2.get 1 rfl).lt
  obtain ⟨k1_0, k1_1, k1_2⟩ := (G2.get 0 rfl).three
  have kz1 := (G2.get 0 rfl).lt
  have F2 : Hid (Fr w _ [(w.heap.size + 1, 26, #[.int .i64 b.brk, .int .i64 b.drag, .int .i64 b.drv]), (w.heap.size, 24, #[.string s, .slice A ps.length c])]) := Lib.hid G2
  clear hb2 G2 F1
  go_upto_region 5 with fail
  clear k0_0 k0_1 kf0 kg0 kz0 k1_0 k1_1 k1_2 kz1
  go_cut [7, 8] from 17 to 24 (fun r e W => (∃ g : Hd, r = .slice g.A 0 g.c ∧ e = .int .i64 er) ∧ Fr w2 W [])
  case first =>
    have HALL : Hid (∀ W, Fr w2 W [] → Fr w2 W [] ∧ W.cell? ⟨w.heap.size, 0, none⟩ = some (.string s) ∧ W.cell? ⟨w.heap.size, 1, none⟩ = some (.slice A ps.length c) ∧ W.cell? ⟨w.heap.size + 1, 0, none⟩ = some (.int .i64 b.brk) ∧ W.cell? ⟨w.heap.size + 1, 1, none⟩ = some (.int .i64 b.drag) ∧ W.cell? ⟨w.heap.size + 1, 2, none⟩ = some (.int .i64 b.drv)) := Lib.hid (fun W hW => ⟨hW, ((F2.out.get 1 rfl).call hW.bl).cell 0, ((F2.out.get 1 rfl).call hW.bl).cell 1, ((F2.out.get 0 rfl).call hW.bl).cell 0, ((F2.out.get 0 rfl).call hW.bl).cell 1, ((F2.out.get 0 rfl).call hW.bl).cell 2⟩)
    have HAC := Lib.hid (Fr.lies HA.out F2.out)
    have F10 : Fr w2 _ [] := Fr.nil w2
    go_region_held3 (fun W => Fr w2 W [] ∧ W.cell? ⟨w.heap.size, 0, none⟩ = some (.string s) ∧ W.cell? ⟨w.heap.size, 1, none⟩ = some (.slice A ps.length c) ∧ W.cell? ⟨w.heap.size + 1, 0, none⟩ = some (.int .i64 b.brk) ∧ W.cell? ⟨w.heap.size + 1, 1, none⟩ = some (.int .i64 b.drag) ∧ W.cell? ⟨w.heap.size + 1, 2, none⟩ = some (.int .i64 b.drv))
        ((go_split_ands; refine HALL.out _ ?_; (first | assumption | (repeat (first | assumption | refine Fr.new ?_ _ | refine Fr.drew ?_ | (refine Fr.set ?_ (by first | exact Nat.le_refl _ | omega | (simp; done) | (simp; omega)) (by first | (simp; done) | (simp; omega)) _))); done)))
        ((first
          | (go_at_call 10; go_split_ands; (with_reducible refine (Copy_any s ps ⟨A, c⟩ (by omega) HG.out _ (Fr.lies HAC.out (by assumption))).mono ?_); rintro e w1 ⟨g2, rfl, hl2, hk2, hb1⟩; have HL2 := Lib.hid hl2; have F4 := Fr.call (by assumption) hb1; clear hb1 hl2 hk2)
          | (go_at_call 19; go_split_ands; (with_reducible refine (HCU.out _ _ _ HL2.out).mono ?_); rintro e w1 ⟨g3, rfl, hb1⟩; have F5 := Fr.call (by assumption) hb1; clear hb1)
          | fail "arm"))
    all_goals
      go_split_ands
      go_wp2_with fail
      go_meet
      exact ⟨⟨g3, rfl, rfl⟩, by assumption⟩
  case rest =>
    obtain ⟨wx3, rfl⟩ : ∃ W, W = wc := ⟨_, rfl⟩
    obtain ⟨⟨gx5, rfl, rfl⟩, hx⟩ := hcut
    have FC3 := Lib.hid (F2.out.call hx.bl)
    clear hx F2
    obtain ⟨k0_0, k0_1, kf0, kg0⟩ := (FC3.out.get 1 rfl).two
    have kz0 := (FC3.out.get 1 rfl).lt
    obtain ⟨k1_0, k1_1, k1_2⟩ := (FC3.out.get 0 rfl).three
    have kz1 := (FC3.out.get 0 rfl).lt
    go_upto_region 6 with fail
    clear k0_0 k0_1 kf0 kg0 kz0 k1_0 k1_1 k1_2 kz1
    go_cut [9, 10] from 25 to 32 (fun r e W => (∃ g : Hd, r = .slice g.A 0 g.c ∧ e = .int .i64 er) ∧ Fr wx3 W [])
    case first =>
      have HALL : Hid (∀ W, Fr wx3 W [] → Fr wx3 W [] ∧ W.cell? ⟨w.heap.size, 0, none⟩ = some (.string s) ∧ W.cell? ⟨w.heap.size, 1, none⟩ = some (.slice A ps.length c) ∧ W.cell? ⟨w.heap.size + 1, 0, none⟩ = some (.int .i64 b.brk) ∧ W.cell? ⟨w.heap.size + 1, 1, none⟩ = some (.int .i64 b.drag) ∧ W.cell? ⟨w.heap.size + 1, 2, none⟩ = some (.int .i64 b.drv)) := Lib.hid (fun W hW => ⟨hW, ((FC3.out.get 1 rfl).call hW.bl).cell 0, ((FC3.out.get 1 rfl).call hW.bl).cell 1, ((FC3.out.get 0 rfl).call hW.bl).cell 0, ((FC3.out.get 0 rfl).call hW.bl).cell 1, ((FC3.out.get 0 rfl).call hW.bl).cell 2⟩)
      have HAC := Lib.hid (Fr.lies HA.out FC3.out)
      have F10 : Fr wx3 _ [] := Fr.nil wx3
      go_region_held3 (fun W => Fr wx3 W [] ∧ W.cell? ⟨w.heap.size, 0, none⟩ = some (.string s) ∧ W.cell? ⟨w.heap.size, 1, none⟩ = some (.slice A ps.length c) ∧ W.cell? ⟨w.heap.size + 1, 0, none⟩ = some (.int .i64 b.brk) ∧ W.cell? ⟨w.heap.size + 1, 1, none⟩ = some (.int .i64 b.drag) ∧ W.cell? ⟨w.heap.size + 1, 2, none⟩ = some (.int .i64 b.drv))
          ((go_split_ands; refine HALL.out _ ?_; (first | assumption | (repeat (first | assumption | refine Fr.new ?_ _ | refine Fr.drew ?_ | (refine Fr.set ?_ (by first | exact Nat.le_refl _ | omega | (simp; done) | (simp; omega)) (by first | (simp; done) | (simp; omega)) _))); done)))
          ((first
            | (go_at_call 10; go_split_ands; (with_reducible refine (Copy_any s ps ⟨A, c⟩ (by omega) HG.out _ (Fr.lies HAC.out (by assumption))).mono ?_); rintro e w1 ⟨g2, rfl, hl2, hk2, hb1⟩; have HL2 := Lib.hid hl2; have F4 := Fr.call (by assumption) hb1; clear hb1 hl2 hk2)
            | (go_at_call 20; go_split_ands; (with_reducible refine (HLS.out _ _ _ HL2.out).mono ?_); rintro e w1 ⟨g3, rfl, hb1⟩; have F5 := Fr.call (by assumption) hb1; clear hb1)
            | fail "arm"))
      all_goals
        go_split_ands
        go_wp2_with fail
        go_meet
        exact ⟨⟨g3, rfl, rfl⟩, by assumption⟩
    case rest =>
      obtain ⟨wx4, rfl⟩ : ∃ W, W = wc := ⟨_, rfl⟩
      obtain ⟨⟨gx6, rfl, rfl⟩, hx⟩ := hcut
      have FC4 := Lib.hid (FC3.out.call hx.bl)
      clear hx FC3
      obtain ⟨k0_0, k0_1, kf0, kg0⟩ := (FC4.out.get 1 rfl).two
      have kz0 := (FC4.out.get 1 rfl).lt
      obtain ⟨k1_0, k1_1, k1_2⟩ := (FC4.out.get 0 rfl).three
      have kz1 := (FC4.out.get 0 rfl).lt
      go_wp2_with fail
      refine (BothErr_any s hs ps A c hl b _ (Fr.lies HA.out FC4.out)).mono ?_
      rintro e w3 ⟨rfl, hb3⟩
      rw [H0.out]
      clear k0_0 k0_1 kf0 kg0 kz0 k1_0 k1_1 k1_2 kz1
      have G3 := Fr.call FC4.out hb3
      obtain ⟨k0_0, k0_1, kf0, kg0⟩ := (G3.get 1 rfl).two
      have kz0 := (G3.get 1 rfl).lt
      obtain ⟨k1_0, k1_1, k1_2⟩ := (G3.get 0 rfl).three
      have kz1 := (G3.get 0 rfl).lt
      have F3 : Hid (Fr w _ [(w.heap.size + 1, 26, #[.int .i64 b.brk, .int .i64 b.drag, .int .i64 b.drv]), (w.heap.size, 24, #[.string s, .slice A ps.length c])]) := Lib.hid G3
      clear hb3 G3 FC4
      go_wp2_with fail
      refine (StopErr_any s ps A c (by omega) stop _ (Fr.lies HA.out F3.out)).mono ?_
      rintro e w4 ⟨rfl, hb4⟩
      rw [HE.out]
      clear k0_0 k0_1 kf0 kg0 kz0 k1_0 k1_1 k1_2 kz1
      have G4 := Fr.call F3.out hb4
      obtain ⟨k0_0, k0_1, kf0, kg0⟩ := (G4.get 1 rfl).two
      have kz0 := (G4.get 1 rfl).lt
      obtain ⟨k1_0, k1_1, k1_2⟩ := (G4.get 0 rfl).three
      have kz1 := (G4.get 0 rfl).lt
      have F4 : Hid (Fr w _ [(w.heap.size + 1, 26, #[.int .i64 b.brk, .int .i64 b.drag, .int .i64 b.drv]), (w.heap.size, 24, #[.string s, .slice A ps.length c])]) := Lib.hid G4
      clear hb4 G4 F3
      go_wp2_with fail
      go_ret
      exact ⟨rfl, F4.out.bl⟩

set_option maxHeartbeats 8000000 in
set_option maxRecDepth 100000 in
theorem curves_ok (s : ByteArray) (hs : s.size ≤ maxLen) (ps : List Bp) (A : Option Addr) (c : Nat) (hg : HdOk ⟨A, c⟩) (hl : ps.length ≤ maxLen) (b : Bs) (k : Nat) (hsh : shortB s ps = true) (h0 : bothE s ps b = 0) (hst : stopE ps (k : Int) = 0) (w : World) (hA : Lies w w.heap.size A (ps.flatMap pc)) : Calls Try.prog 4 #[.agg #[.string s, .slice A ps.length c], .agg #[.int .i64 b.brk, .int .i64 b.drag, .int .i64 b.drv], .int .i64 (k : Int)] w fun e w' => e = .returned (.bool true) ∧ Below w.heap.size w w' := by
  obtain ⟨hok, hb⟩ := bothE_zero h0
  obtain ⟨k2, hk2, hk, hlv⟩ := stopE_ok hst
  obtain rfl : k = k2 := by omega
  clear hk2
  have HOK := Lib.hid hok
  have HB := Lib.hid hb
  obtain ⟨a, rfl⟩ := ps_some hA hok.n0
  have hsb : sE b = 0 := by unfold bothE at h0; rw [if_neg (by rw [trE_ok hok]; simp)] at h0; exact h0
  have HCU : Hid (∀ (A' : Option Addr) (c' : Nat) (W : World), Lies W W.heap.size A' (ps.flatMap pc) → Calls Try.prog 19 #[.agg #[.string s, .slice A' ps.length c'], .agg #[.int .i64 b.brk, .int .i64 b.drag, .int .i64 b.drv], .int .i64 (k : Int)] W fun e w' => ∃ g : Hd, e = .returned (.tuple #[.slice g.A (k + 2 : Nat) g.c, .int .i64 0]) ∧ Lies w' w'.heap.size g.A (ic (listF (k + 2) (crvV ps b.brk k))) ∧ Below W.heap.size W w') := Lib.hid (fun A' c' W h => by obtain ⟨a', rfl⟩ := ps_some h hok.n0; exact (CurveOf_ok s hs ps a' c' (by have := hok.n12; omega) b (k : Int) hok hb hsb hst W h).mono fun _ _ h => rowE_ok h)
  have HLS : Hid (∀ (A' : Option Addr) (c' : Nat) (W : World), Lies W W.heap.size A' (ps.flatMap pc) → Calls Try.prog 20 #[.agg #[.string s, .slice A' ps.length c'], .agg #[.int .i64 b.brk, .int .i64 b.drag, .int .i64 b.drv], .int .i64 (k : Int)] W fun e w' => ∃ g : Hd, e = .returned (.tuple #[.slice g.A (k + 1 : Nat) g.c, .int .i64 0]) ∧ Lies w' w'.heap.size g.A (ic (listF (k + 1) (lstV ps b.drag k))) ∧ Below W.heap.size W w') := Lib.hid (fun A' c' W h => by obtain ⟨a', rfl⟩ := ps_some h hok.n0; exact (LeastOf_ok s hs ps a' c' (by have := hok.n12; omega) b (k : Int) hok hb hsb hst W h).mono fun _ _ h => rowE_ok h)
  have F0 := Lib.hid (Fr.b2 w 24 #[.string s, .slice (some a) ps.length c] 26 #[.int .i64 b.brk, .int .i64 b.drag, .int .i64 b.drv])
  have HA := Lib.hid hA
  have HG := Lib.hid hg
  clear hA hg
  have HSH := Lib.hid hsh
  have hl14 : ps.length ≤ 14 := (short_iff.1 hsh).2
  clear hsh
  have H0 := Lib.hid h0
  have HST := Lib.hid hst
  have HK := Lib.hid hk
  have h12 := hok.n12
  clear hok hb hsb h0 hst hlv hk
  go_enter Try.func4, Try.ntmps4
  go_wp2_with fail
  refine (awake_any _).mono ?_
  rintro e w1 ⟨rfl, hb1⟩
  have G1 := Fr.call F0.out hb1
  obtain ⟨k0_0, k0_1, kf0, kg0⟩ := (G1.get 1 rfl).two
  have kz0 := (G1.get 1 rfl).lt
  obtain ⟨k1_0, k1_1, k1_2⟩ := (G1.get 0 rfl).three
  have kz1 := (G1.get 0 rfl).lt
  have F1 : Hid (Fr w _ [(w.heap.size + 1, 26, #[.int .i64 b.brk, .int .i64 b.drag, .int .i64 b.drv]), (w.heap.size, 24, #[.string s, .slice (some a) ps.length c])]) := Lib.hid G1
  clear hb1 G1 F0
  go_wp2_with fail
  refine (Short_any s hs ps (some a) c hl _).mono ?_
  rintro e w2 ⟨rfl, hb2⟩
  rw [HSH.out]
  clear k0_0 k0_1 kf0 kg0 kz0 k1_0 k1_1 k1_2 kz1
  have G2 := Fr.call F1.out hb2
  obtain ⟨k0_0, k0_1, kf0, kg0⟩ := (G2.get 1 rfl).two
  have kz0 := (G2.get 1 rfl).lt
  obtain ⟨k1_0, k1_1, k1_2⟩ := (G2.get 0 rfl).three
  have kz1 := (G2.get 0 rfl).lt
  have F2 : Hid (Fr w _ [(w.heap.size + 1, 26, #[.int .i64 b.brk, .int .i64 b.drag, .int .i64 b.drv]), (w.heap.size, 24, #[.string s, .slice (some a) ps.length c])]) := Lib.hid G2
  clear hb2 G2 F1
  go_upto_region 5 with fail
  clear k0_0 k0_1 kf0 kg0 kz0 k1_0 k1_1 k1_2 kz1
  go_cut [7, 8] from 17 to 24 (fun r e W => (∃ g : Hd, r = .slice g.A (k + 2 : Nat) g.c ∧ e = .int .i64 0 ∧ Lies W W.heap.size g.A (ic (listF (k + 2) (crvV ps b.brk k)))) ∧ Fr w2 W [])
  case first =>
    have HALL : Hid (∀ W, Fr w2 W [] → Fr w2 W [] ∧ W.cell? ⟨w.heap.size, 0, none⟩ = some (.string s) ∧ W.cell? ⟨w.heap.size, 1, none⟩ = some (.slice (some a) ps.length c) ∧ W.cell? ⟨w.heap.size + 1, 0, none⟩ = some (.int .i64 b.brk) ∧ W.cell? ⟨w.heap.size + 1, 1, none⟩ = some (.int .i64 b.drag) ∧ W.cell? ⟨w.heap.size + 1, 2, none⟩ = some (.int .i64 b.drv)) := Lib.hid (fun W hW => ⟨hW, ((F2.out.get 1 rfl).call hW.bl).cell 0, ((F2.out.get 1 rfl).call hW.bl).cell 1, ((F2.out.get 0 rfl).call hW.bl).cell 0, ((F2.out.get 0 rfl).call hW.bl).cell 1, ((F2.out.get 0 rfl).call hW.bl).cell 2⟩)
    have HAC := Lib.hid (Fr.lies HA.out F2.out)
    have F10 : Fr w2 _ [] := Fr.nil w2
    go_region_held3 (fun W => Fr w2 W [] ∧ W.cell? ⟨w.heap.size, 0, none⟩ = some (.string s) ∧ W.cell? ⟨w.heap.size, 1, none⟩ = some (.slice (some a) ps.length c) ∧ W.cell? ⟨w.heap.size + 1, 0, none⟩ = some (.int .i64 b.brk) ∧ W.cell? ⟨w.heap.size + 1, 1, none⟩ = some (.int .i64 b.drag) ∧ W.cell? ⟨w.heap.size + 1, 2, none⟩ = some (.int .i64 b.drv))
        ((go_split_ands; refine HALL.out _ ?_; (first | assumption | (repeat (first | assumption | refine Fr.new ?_ _ | refine Fr.drew ?_ | (refine Fr.set ?_ (by first | exact Nat.le_refl _ | omega | (simp; done) | (simp; omega)) (by first | (simp; done) | (simp; omega)) _))); done)))
        ((first
          | (go_at_call 10; go_split_ands; (with_reducible refine (Copy_any s ps ⟨(some a), c⟩ (by omega) HG.out _ (Fr.lies HAC.out (by assumption))).mono ?_); rintro e w1 ⟨g2, rfl, hl2, hk2, hb1⟩; have HL2 := Lib.hid hl2; have F4 := Fr.call (by assumption) hb1; clear hb1 hl2 hk2)
          | (go_at_call 19; go_split_ands; (with_reducible refine (HCU.out _ _ _ HL2.out).mono ?_); rintro e w1 ⟨g3, rfl, hl3, hb1⟩; have HL3 := Lib.hid hl3; have F5 := Fr.call (by assumption) hb1; clear hb1 hl3)
          | fail "arm"))
    all_goals
      go_split_ands
      go_wp2_with fail
      go_meet
      exact ⟨⟨g3, rfl, rfl, HL3.out⟩, by assumption⟩
  case rest =>
    obtain ⟨wx5, rfl⟩ : ∃ W, W = wc := ⟨_, rfl⟩
    obtain ⟨⟨gx5, rfl, rfl, hy5⟩, hx⟩ := hcut
    have FC5 := Lib.hid (F2.out.call hx.bl)
    clear hx F2
    obtain ⟨k0_0, k0_1, kf0, kg0⟩ := (FC5.out.get 1 rfl).two
    have kz0 := (FC5.out.get 1 rfl).lt
    obtain ⟨k1_0, k1_1, k1_2⟩ := (FC5.out.get 0 rfl).three
    have kz1 := (FC5.out.get 0 rfl).lt
    have Y5 := Lib.hid hy5
    clear hy5
    go_upto_region 6 with fail
    clear k0_0 k0_1 kf0 kg0 kz0 k1_0 k1_1 k1_2 kz1
    go_cut [9, 10] from 25 to 32 (fun r e W => (∃ g : Hd, r = .slice g.A (k + 1 : Nat) g.c ∧ e = .int .i64 0 ∧ Lies W W.heap.size g.A (ic (listF (k + 1) (lstV ps b.drag k)))) ∧ Fr wx5 W [])
    case first =>
      have HALL : Hid (∀ W, Fr wx5 W [] → Fr wx5 W [] ∧ W.cell? ⟨w.heap.size, 0, none⟩ = some (.string s) ∧ W.cell? ⟨w.heap.size, 1, none⟩ = some (.slice (some a) ps.length c) ∧ W.cell? ⟨w.heap.size + 1, 0, none⟩ = some (.int .i64 b.brk) ∧ W.cell? ⟨w.heap.size + 1, 1, none⟩ = some (.int .i64 b.drag) ∧ W.cell? ⟨w.heap.size + 1, 2, none⟩ = some (.int .i64 b.drv)) := Lib.hid (fun W hW => ⟨hW, ((FC5.out.get 1 rfl).call hW.bl).cell 0, ((FC5.out.get 1 rfl).call hW.bl).cell 1, ((FC5.out.get 0 rfl).call hW.bl).cell 0, ((FC5.out.get 0 rfl).call hW.bl).cell 1, ((FC5.out.get 0 rfl).call hW.bl).cell 2⟩)
      have HAC := Lib.hid (Fr.lies HA.out FC5.out)
      have F10 : Fr wx5 _ [] := Fr.nil wx5
      go_region_held3 (fun W => Fr wx5 W [] ∧ W.cell? ⟨w.heap.size, 0, none⟩ = some (.string s) ∧ W.cell? ⟨w.heap.size, 1, none⟩ = some (.slice (some a) ps.length c) ∧ W.cell? ⟨w.heap.size + 1, 0, none⟩ = some (.int .i64 b.brk) ∧ W.cell? ⟨w.heap.size + 1, 1, none⟩ = some (.int .i64 b.drag) ∧ W.cell? ⟨w.heap.size + 1, 2, none⟩ = some (.int .i64 b.drv))
          ((go_split_ands; refine HALL.out _ ?_; (first | assumption | (repeat (first | assumption | refine Fr.new ?_ _ | refine Fr.drew ?_ | (refine Fr.set ?_ (by first | exact Nat.le_refl _ | omega | (simp; done) | (simp; omega)) (by first | (simp; done) | (simp; omega)) _))); done)))
          ((first
            | (go_at_call 10; go_split_ands; (with_reducible refine (Copy_any s ps ⟨(some a), c⟩ (by omega) HG.out _ (Fr.lies HAC.out (by assumption))).mono ?_); rintro e w1 ⟨g2, rfl, hl2, hk2, hb1⟩; have HL2 := Lib.hid hl2; have F4 := Fr.call (by assumption) hb1; clear hb1 hl2 hk2)
            | (go_at_call 20; go_split_ands; (with_reducible refine (HLS.out _ _ _ HL2.out).mono ?_); rintro e w1 ⟨g3, rfl, hl3, hb1⟩; have HL3 := Lib.hid hl3; have F5 := Fr.call (by assumption) hb1; clear hb1 hl3)
            | fail "arm"))
      all_goals
        go_split_ands
        go_wp2_with fail
        go_meet
        exact ⟨⟨g3, rfl, rfl, HL3.out⟩, by assumption⟩
    case rest =>
      obtain ⟨wx6, rfl⟩ : ∃ W, W = wc := ⟨_, rfl⟩
      obtain ⟨⟨gx6, rfl, rfl, hy6⟩, hx⟩ := hcut
      have FC6 := Lib.hid (FC5.out.call hx.bl)
      have Y5 := Lib.hid (Lies.call Y5.out hx.bl)
      clear hx FC5
      obtain ⟨k0_0, k0_1, kf0, kg0⟩ := (FC6.out.get 1 rfl).two
      have kz0 := (FC6.out.get 1 rfl).lt
      obtain ⟨k1_0, k1_1, k1_2⟩ := (FC6.out.get 0 rfl).three
      have kz1 := (FC6.out.get 0 rfl).lt
      have Y6 := Lib.hid hy6
      clear hy6
      go_wp2_with fail
      refine (BothErr_any s hs ps (some a) c hl b _ (Fr.lies HA.out FC6.out)).mono ?_
      rintro e w3 ⟨rfl, hb3⟩
      rw [H0.out]
      clear k0_0 k0_1 kf0 kg0 kz0 k1_0 k1_1 k1_2 kz1
      have G3 := Fr.call FC6.out hb3
      have Y5 := Lib.hid (Lies.call Y5.out hb3)
      have Y6 := Lib.hid (Lies.call Y6.out hb3)
      obtain ⟨k0_0, k0_1, kf0, kg0⟩ := (G3.get 1 rfl).two
      have kz0 := (G3.get 1 rfl).lt
      obtain ⟨k1_0, k1_1, k1_2⟩ := (G3.get 0 rfl).three
      have kz1 := (G3.get 0 rfl).lt
      have F3 : Hid (Fr w _ [(w.heap.size + 1, 26, #[.int .i64 b.brk, .int .i64 b.drag, .int .i64 b.drv]), (w.heap.size, 24, #[.string s, .slice (some a) ps.length c])]) := Lib.hid G3
      clear hb3 G3 FC6
      go_wp2_with fail
      refine (StopErr_any s ps (some a) c (by omega) (k : Int) _ (Fr.lies HA.out F3.out)).mono ?_
      rintro e w4 ⟨rfl, hb4⟩
      rw [HST.out]
      clear k0_0 k0_1 kf0 kg0 kz0 k1_0 k1_1 k1_2 kz1
      have G4 := Fr.call F3.out hb4
      have Y5 := Lib.hid (Lies.call Y5.out hb4)
      have Y6 := Lib.hid (Lies.call Y6.out hb4)
      obtain ⟨k0_0, k0_1, kf0, kg0⟩ := (G4.get 1 rfl).two
      have kz0 := (G4.get 1 rfl).lt
      obtain ⟨k1_0, k1_1, k1_2⟩ := (G4.get 0 rfl).three
      have kz1 := (G4.get 0 rfl).lt
      have F4 : Hid (Fr w _ [(w.heap.size + 1, 26, #[.int .i64 b.brk, .int .i64 b.drag, .int .i64 b.drv]), (w.heap.size, 24, #[.string s, .slice (some a) ps.length c])]) := Lib.hid G4
      clear hb4 G4 F3
      go_wp2_with fail
      refine (refCurveOf_any s ps a c b HB.out HOK.out.n0 HOK.out.n12 HOK.out.each k HK.out _ (Fr.lies HA.out F4.out)).mono ?_
      rintro e w5 ⟨gq, rfl, nq, _, hb5⟩
      clear k0_0 k0_1 kf0 kg0 kz0 k1_0 k1_1 k1_2 kz1
      have G5 := Fr.call F4.out hb5
      have Z5 := Lib.hid (rowF_lies nq)
      have Y5 := Lib.hid (Lies.call Y5.out hb5)
      have Y6 := Lib.hid (Lies.call Y6.out hb5)
      obtain ⟨k0_0, k0_1, kf0, kg0⟩ := (G5.get 1 rfl).two
      have kz0 := (G5.get 1 rfl).lt
      obtain ⟨k1_0, k1_1, k1_2⟩ := (G5.get 0 rfl).three
      have kz1 := (G5.get 0 rfl).lt
      have F5 : Hid (Fr w _ [(w.heap.size + 1, 26, #[.int .i64 b.brk, .int .i64 b.drag, .int .i64 b.drv]), (w.heap.size, 24, #[.string s, .slice (some a) ps.length c])]) := Lib.hid G5
      clear hb5 G5 F4
      clear nq
      go_wp2_with fail
      refine (Ints_listF (k + 2) (crvV ps b.brk k) (by have := HK.out; omega) _ _ _ _ _ Y5.out Z5.out).mono ?_
      rintro e w6 ⟨rfl, hb6⟩
      clear k0_0 k0_1 kf0 kg0 kz0 k1_0 k1_1 k1_2 kz1
      have G6 := Fr.call F5.out hb6
      have Y6 := Lib.hid (Lies.call Y6.out hb6)
      obtain ⟨k0_0, k0_1, kf0, kg0⟩ := (G6.get 1 rfl).two
      have kz0 := (G6.get 1 rfl).lt
      obtain ⟨k1_0, k1_1, k1_2⟩ := (G6.get 0 rfl).three
      have kz1 := (G6.get 0 rfl).lt
      have F6 : Hid (Fr w _ [(w.heap.size + 1, 26, #[.int .i64 b.brk, .int .i64 b.drag, .int .i64 b.drv]), (w.heap.size, 24, #[.string s, .slice (some a) ps.length c])]) := Lib.hid G6
      clear hb6 G6 F5
      clear Y5 Z5
      go_wp2_with fail
      refine (refLeastOf_any s ps a c b HB.out HOK.out.n12 HOK.out.each k HK.out _ (Fr.lies HA.out F6.out)).mono ?_
      rintro e w7 ⟨gq2, rfl, nq, _, hb7⟩
      clear k0_0 k0_1 kf0 kg0 kz0 k1_0 k1_1 k1_2 kz1
      have G7 := Fr.call F6.out hb7
      have Z6 := Lib.hid (rowF_lies nq)
      have Y6 := Lib.hid (Lies.call Y6.out hb7)
      obtain ⟨k0_0, k0_1, kf0, kg0⟩ := (G7.get 1 rfl).two
      have kz0 := (G7.get 1 rfl).lt
      obtain ⟨k1_0, k1_1, k1_2⟩ := (G7.get 0 rfl).three
      have kz1 := (G7.get 0 rfl).lt
      have F7 : Hid (Fr w _ [(w.heap.size + 1, 26, #[.int .i64 b.brk, .int .i64 b.drag, .int .i64 b.drv]), (w.heap.size, 24, #[.string s, .slice (some a) ps.length c])]) := Lib.hid G7
      clear hb7 G7 F6
      clear nq
      go_wp2_with fail
      refine (Ints_listF (k + 1) (lstV ps b.drag k) (by have := HK.out; omega) _ _ _ _ _ Y6.out Z6.out).mono ?_
      rintro e w8 ⟨rfl, hb8⟩
      clear k0_0 k0_1 kf0 kg0 kz0 k1_0 k1_1 k1_2 kz1
      have G8 := Fr.call F7.out hb8
      obtain ⟨k0_0, k0_1, kf0, kg0⟩ := (G8.get 1 rfl).two
      have kz0 := (G8.get 1 rfl).lt
      obtain ⟨k1_0, k1_1, k1_2⟩ := (G8.get 0 rfl).three
      have kz1 := (G8.get 0 rfl).lt
      have F8 : Hid (Fr w _ [(w.heap.size + 1, 26, #[.int .i64 b.brk, .int .i64 b.drag, .int .i64 b.drv]), (w.heap.size, 24, #[.string s, .slice (some a) ps.length c])]) := Lib.hid G8
      clear hb8 G8 F7
      clear Y6 Z6
      go_wp2_with fail
      go_ret
      exact ⟨rfl, F8.out.bl⟩

set_option maxHeartbeats 8000000 in
set_option maxRecDepth 100000 in
theorem BrakeCurves_any (s : ByteArray) (hs : s.size ≤ maxLen) (ps : List Bp) (A : Option Addr) (c : Nat) (hg : HdOk ⟨A, c⟩) (hl : ps.length ≤ maxLen) (b : Bs) (stop : Int) (w : World) (hA : Lies w w.heap.size A (ps.flatMap pc)) : Calls Try.prog 4 #[.agg #[.string s, .slice A ps.length c], .agg #[.int .i64 b.brk, .int .i64 b.drag, .int .i64 b.drv], .int .i64 stop] w fun e w' => e = .returned (.bool true) ∧ Below w.heap.size w w' := by
  cases hsh : shortB s ps with
  | false => exact curves_long s hs ps A c hg hl b stop hsh w hA
  | true =>
    by_cases h0 : bothE s ps b = 0
    · by_cases hst : stopE ps stop = 0
      · obtain ⟨k, rfl, _⟩ := stopE_ok hst
        exact curves_ok s hs ps A c hg hl b k hsh h0 hst w hA
      · exact curves_bad2 s hs ps A c hg hl b stop hsh h0 _ rfl hst w hA
    · exact curves_bad1 s hs ps A c hg hl b stop hsh _ rfl h0 w hA
end Go.Proofs.Ytlmfpodajmmdeaa
