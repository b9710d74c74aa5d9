
/-
  The walk of BrakeFastest.
-/
import Derived.Test.YtbicmbnhlnmdfaaBKit
import Derived.Test.YtbicmbnhlnmdfaaBErr
import Derived.Test.YtbicmbnhlnmdfaaBRff
namespace Go.Proofs.Ytbicmbnhlnmdfaa
open Go.RowKit
theorem rowB_no {w w' : World} {l : List Int} {e : Ending} (h : RowB w l false e w') : ∃ g : Hd, e = .returned (.tuple #[.slice g.A 0 g.c, .bool false]) ∧ Below w.heap.size w w' := by
  obtain ⟨g, rfl, _, hb⟩ := h
  exact ⟨g, by rw [if_neg (by simp)], hb⟩
theorem rowB_yes {w w' : World} {n : Nat} {f : Nat → Int} {e : Ending} (h : RowB w (listF n f) true e w') : ∃ g : Hd, e = .returned (.tuple #[.slice g.A n g.c, .bool true]) ∧ Lies w' w'.heap.size g.A (ic (listF n f)) ∧ Below w.heap.size w w' := by
  obtain ⟨g, rfl, hL, hb⟩ := h
  exact ⟨g, by rw [if_pos rfl, listF_len], hL rfl, hb⟩

set_option maxHeartbeats 8000000 in
set_option maxRecDepth 100000 in
theorem fa_long (s : ByteArray) (hs : s.size ≤ maxLen) (ps : List Bp) (A : Option Addr) (c : Nat) (hg : HdOk ⟨A, c⟩) (hl : ps.length ≤ maxLen) (b : Bs) (e0 e1 : Int) (hsh : shortB s ps = false) (w : World) (hA : Lies w w.heap.size A (ps.flatMap pc)) : Calls Try.prog 5 #[.agg #[.string s, .slice A ps.length c], .agg #[.int .i64 b.brk, .int .i64 b.drag, .int .i64 b.drv], .agg #[.int .i64 e0, .int .i64 e1]] w fun e w' => e = .returned (.bool true) ∧ Below w.heap.size w w' := by
  have F0 := Lib.hid (Fr.b3 w 24 #[.string s, .slice A ps.length c] 26 #[.int .i64 b.brk, .int .i64 b.drag, .int .i64 b.drv] 59 #[.int .i64 e0, .int .i64 e1])
  have HA := Lib.hid hA
  have HG := Lib.hid hg
  clear hA hg
  have HSH := Lib.hid hsh
  clear hsh
  go_enter Try.func5, Try.ntmps5
  go_wp2_with fail
  refine (awake_any _).mono ?_
  rintro e w1 ⟨rfl, hb1⟩
  have G1 := Fr.call F0.out hb1
  obtain ⟨k0_0, k0_1, kf0, kg0⟩ := (G1.get 2 rfl).two
  have kz0 := (G1.get 2 rfl).lt
  obtain ⟨k1_0, k1_1, k1_2⟩ := (G1.get 1 rfl).three
  have kz1 := (G1.get 1 rfl).lt
  obtain ⟨k2_0, k2_1, kf2, kg2⟩ := (G1.get 0 rfl).two
  have kz2 := (G1.get 0 rfl).lt
  have F1 : Hid (Fr w _ [(w.heap.size + 1 + 1, 59, #[.int .i64 e0, .int .i64 e1]), (w.heap.size + 1, 26, #[.int .i64 b.brk, .int .i64 b.drag, .int .i64 b.drv]), (w.heap.size, 24, #[.string s, .slice A ps.length c])]) := Lib.hid G1
  clear hb1 G1 F0
  go_wp2_with fail
  refine (Short_any s hs ps A c hl _).mono ?_
  rintro e w2 ⟨rfl, hb2⟩
  rw [HSH.out]
  clear k0_0 k0_1 kf0 kg0 kz0 k1_0 k1_1 k1_2 kz1 k2_0 k2_1 kf2 kg2 kz2
  have G2 := Fr.call F1.out hb2
  obtain ⟨k0_0, k0_1, kf0, kg0⟩ := (G2.get 2 rfl).two
  have kz0 := (G2.get 2 rfl).lt
  obtain ⟨k1_0, k1_1, k1_2⟩ := (G2.get 1 rfl).three
  have kz1 := (G2.get 1 rfl).lt
  obtain ⟨k2_0, k2_1, kf2, kg2⟩ := (G2.get 0 rfl).two
  have kz2 := (G2.get 0 rfl).lt
  have F2 : Hid (Fr w _ [(w.heap.size + 1 + 1, 59, #[.int .i64 e0, .int .i64 e1]), (w.heap.size + 1, 26, #[.int .i64 b.brk, .int .i64 b.drag, .int .i64 b.drv]), (w.heap.size, 24, #[.string s, .slice A ps.length c])]) := Lib.hid G2
  clear hb2 G2 F1
  go_wp2_with fail
  go_ret
  exact ⟨rfl, F2.out.bl⟩

set_option maxHeartbeats 8000000 in
set_option maxRecDepth 100000 in
theorem fa_bad0 (s : ByteArray) (hs : s.size ≤ maxLen) (ps : List Bp) (A : Option Addr) (c : Nat) (hg : HdOk ⟨A, c⟩) (hl : ps.length ≤ maxLen) (b : Bs) (e0 e1 : Int) (hsh : shortB s ps = true) (er : Int) (hr : er ≠ 0) (hb0 : bothE s ps b = er) (w : World) (hA : Lies w w.heap.size A (ps.flatMap pc)) : Calls Try.prog 5 #[.agg #[.string s, .slice A ps.length c], .agg #[.int .i64 b.brk, .int .i64 b.drag, .int .i64 b.drv], .agg #[.int .i64 e0, .int .i64 e1]] w fun e w' => e = .returned (.bool true) ∧ Below w.heap.size w w' := by
  have HFA : Hid (∀ (A' : Option Addr) (c' : Nat) (W : World), Lies W W.heap.size A' (ps.flatMap pc) → Calls Try.prog 21 #[.agg #[.string s, .slice A' ps.length c'], .agg #[.int .i64 b.brk, .int .i64 b.drag, .int .i64 b.drv], .agg #[.int .i64 e0, .int .i64 e1]] W fun e w' => ∃ g : Hd, e = .returned (.tuple #[.slice g.A 0 g.c, .int .i64 er]) ∧ Below W.heap.size W w') := Lib.hid (fun A' c' W h => by have := Fastest_any s hs ps A' c' (by have := (short_iff.1 hsh).2; omega) b e0 e1 W h; unfold fasE at this; rw [hb0, if_pos hr] at this; exact this.mono fun _ _ h => rowE_bad hr h)
  have F0 := Lib.hid (Fr.b3 w 24 #[.string s, .slice A ps.length c] 26 #[.int .i64 b.brk, .int .i64 b.drag, .int .i64 b.drv] 59 #[.int .i64 e0, .int .i64 e1])
  have HA := Lib.hid hA
  have HG := Lib.hid hg
  clear hA hg
  have HSH := Lib.hid hsh
  have hl14 : ps.length ≤ 14 := (short_iff.1 hsh).2
  clear hsh
  have HE := Lib.hid hb0
  have gn : (er != 0) = true := by simp [hr]
  have ge : (er == 0) = false := by simp [hr]
  have ge2 : ¬ er = 0 := hr
  clear hr hb0
  go_enter Try.func5, Try.ntmps5
  go_wp2_with fail
  refine (awake_any _).mono ?_
  rintro e w1 ⟨rfl, hb1⟩
  have G1 := Fr.call F0.out hb1
  obtain ⟨k0_0, k0_1, kf0, kg0⟩ := (G1.get 2 rfl).two
  have kz0 := (G1.get 2 rfl).lt
  obtain ⟨k1_0, k1_1, k1_2⟩ := (G1.get 1 rfl).three
  have kz1 := (G1.get 1 rfl).lt
  obtain ⟨k2_0, k2_1, kf2, kg2⟩ := (G1.get 0 rfl).two
  have kz2 := (G1.get 0 rfl).lt
  have F1 : Hid (Fr w _ [(w.heap.size + 1 + 1, 59, #[.int .i64 e0, .int .i64 e1]), (w.heap.size + 1, 26, #[.int .i64 b.brk, .int .i64 b.drag, .int .i64 b.drv]), (w.heap.size, 24, #[.string s, .slice A ps.length c])]) := Lib.hid G1
  clear hb1 G1 F0
  go_wp2_with fail
  refine (Short_any s hs ps A c hl _).mono ?_
  rintro e w2 ⟨rfl, hb2⟩
  rw [HSH.out]
  clear k0_0 k0_1 kf0 kg0 kz0 k1_0 k1_1 k1_2 kz1 k2_0 k2_1 kf2 kg2 kz2
  have G2 := Fr.call F1.out hb2
  obtain ⟨k0_0, k0_1, kf0, kg0⟩ := (G2.get 2 rfl).two
  have kz0 := (G2.get 2 rfl).lt
  obtain ⟨k1_0, k1_1, k1_2⟩ := (G2.get 1 rfl).three
  have kz1 := (G2.get 1 rfl).lt
  obtain ⟨k2_0, k2_1, kf2, kg2⟩ := (G2.get 0 rfl).two
  have kz2 := (G2.get 0 rfl).lt
  have F2 : Hid (Fr w _ [(w.heap.size + 1 + 1, 59, #[.int .i64 e0, .int .i64 e1]), (w.heap.size + 1, 26, #[.int .i64 b.brk, .int .i64 b.drag, .int .i64 b.drv]), (w.heap.size, 24, #[.string s, .slice A ps.length c])]) := Lib.hid G2
  clear hb2 G2 F1
  go_upto_region 5 with fail
  clear k0_0 k0_1 kf0 kg0 kz0 k1_0 k1_1 k1_2 kz1 k2_0 k2_1 kf2 kg2 kz2
  go_cut [7, 8] from 17 to 24 (fun r e W => (∃ g : Hd, r = .slice g.A 0 g.c ∧ e = .int .i64 er) ∧ Fr w2 W [])
  case first =>
    have HALL : Hid (∀ W, Fr w2 W [] → Fr w2 W [] ∧ W.cell? ⟨w.heap.size, 0, none⟩ = some (.string s) ∧ W.cell? ⟨w.heap.size, 1, none⟩ = some (.slice A ps.length c) ∧ W.cell? ⟨w.heap.size + 1, 0, none⟩ = some (.int .i64 b.brk) ∧ W.cell? ⟨w.heap.size + 1, 1, none⟩ = some (.int .i64 b.drag) ∧ W.cell? ⟨w.heap.size + 1, 2, none⟩ = some (.int .i64 b.drv) ∧ W.cell? ⟨w.heap.size + 1 + 1, 0, none⟩ = some (.int .i64 e0) ∧ W.cell? ⟨w.heap.size + 1 + 1, 1, none⟩ = some (.int .i64 e1)) := Lib.hid (fun W hW => ⟨hW, ((F2.out.get 2 rfl).call hW.bl).cell 0, ((F2.out.get 2 rfl).call hW.bl).cell 1, ((F2.out.get 1 rfl).call hW.bl).cell 0, ((F2.out.get 1 rfl).call hW.bl).cell 1, ((F2.out.get 1 rfl).call hW.bl).cell 2, ((F2.out.get 0 rfl).call hW.bl).cell 0, ((F2.out.get 0 rfl).call hW.bl).cell 1⟩)
    have HAC := Lib.hid (Fr.lies HA.out F2.out)
    have F10 : Fr w2 _ [] := Fr.nil w2
    go_region_held3 (fun W => Fr w2 W [] ∧ W.cell? ⟨w.heap.size, 0, none⟩ = some (.string s) ∧ W.cell? ⟨w.heap.size, 1, none⟩ = some (.slice A ps.length c) ∧ W.cell? ⟨w.heap.size + 1, 0, none⟩ = some (.int .i64 b.brk) ∧ W.cell? ⟨w.heap.size + 1, 1, none⟩ = some (.int .i64 b.drag) ∧ W.cell? ⟨w.heap.size + 1, 2, none⟩ = some (.int .i64 b.drv) ∧ W.cell? ⟨w.heap.size + 1 + 1, 0, none⟩ = some (.int .i64 e0) ∧ W.cell? ⟨w.heap.size + 1 + 1, 1, none⟩ = some (.int .i64 e1))
        ((go_split_ands; refine HALL.out _ ?_; (first | assumption | (repeat (first | assumption | refine Fr.new ?_ _ | refine Fr.drew ?_ | (refine Fr.set ?_ (by first | exact Nat.le_refl _ | omega | (simp; done) | (simp; omega)) (by first | (simp; done) | (simp; omega)) _))); done)))
        ((first
          | (go_at_call 13; go_split_ands; (with_reducible refine (Copy_any s ps ⟨A, c⟩ (by omega) HG.out _ (Fr.lies HAC.out (by assumption))).mono ?_); rintro e w1 ⟨g2, rfl, hl2, hk2, hb1⟩; have HL2 := Lib.hid hl2; have F4 := Fr.call (by assumption) hb1; clear hb1 hl2 hk2)
          | (go_at_call 21; go_split_ands; (with_reducible refine (HFA.out _ _ _ HL2.out).mono ?_); rintro e w1 ⟨g3, rfl, hb1⟩; have F5 := Fr.call (by assumption) hb1; clear hb1)
          | fail "arm"))
    all_goals
      go_split_ands
      go_wp2_with fail
      go_meet
      exact ⟨⟨g3, rfl, rfl⟩, by assumption⟩
  case rest =>
    obtain ⟨wx1, rfl⟩ : ∃ W, W = wc := ⟨_, rfl⟩
    obtain ⟨⟨gx5, rfl, rfl⟩, hx⟩ := hcut
    have FC1 := Lib.hid (F2.out.call hx.bl)
    clear hx F2
    obtain ⟨k0_0, k0_1, kf0, kg0⟩ := (FC1.out.get 2 rfl).two
    have kz0 := (FC1.out.get 2 rfl).lt
    obtain ⟨k1_0, k1_1, k1_2⟩ := (FC1.out.get 1 rfl).three
    have kz1 := (FC1.out.get 1 rfl).lt
    obtain ⟨k2_0, k2_1, kf2, kg2⟩ := (FC1.out.get 0 rfl).two
    have kz2 := (FC1.out.get 0 rfl).lt
    go_wp2_with fail
    refine (BothErr_any s hs ps A c hl b _ (Fr.lies HA.out FC1.out)).mono ?_
    rintro e w3 ⟨rfl, hb3⟩
    rw [HE.out]
    clear k0_0 k0_1 kf0 kg0 kz0 k1_0 k1_1 k1_2 kz1 k2_0 k2_1 kf2 kg2 kz2
    have G3 := Fr.call FC1.out hb3
    obtain ⟨k0_0, k0_1, kf0, kg0⟩ := (G3.get 2 rfl).two
    have kz0 := (G3.get 2 rfl).lt
    obtain ⟨k1_0, k1_1, k1_2⟩ := (G3.get 1 rfl).three
    have kz1 := (G3.get 1 rfl).lt
    obtain ⟨k2_0, k2_1, kf2, kg2⟩ := (G3.get 0 rfl).two
    have kz2 := (G3.get 0 rfl).lt
    have F3 : Hid (Fr w _ [(w.heap.size + 1 + 1, 59, #[.int .i64 e0, .int .i64 e1]), (w.heap.size + 1, 26, #[.int .i64 b.brk, .int .i64 b.drag, .int .i64 b.drv]), (w.heap.size, 24, #[.string s, .slice A ps.length c])]) := Lib.hid G3
    clear hb3 G3 FC1
    go_wp2_with fail
    go_ret
    exact ⟨rfl, F3.out.bl⟩

set_option maxHeartbeats 8000000 in
set_option maxRecDepth 100000 in
theorem fa_bad1 (s : ByteArray) (hs : s.size ≤ maxLen) (ps : List Bp) (A : Option Addr) (c : Nat) (hg : HdOk ⟨A, c⟩) (hl : ps.length ≤ maxLen) (b : Bs) (e0 e1 : Int) (hsh : shortB s ps = true) (h0 : bothE s ps b = 0) (h1 : sqE [e0, e1] ≠ 0) (w : World) (hA : Lies w w.heap.size A (ps.flatMap pc)) : Calls Try.prog 5 #[.agg #[.string s, .slice A ps.length c], .agg #[.int .i64 b.brk, .int .i64 b.drag, .int .i64 b.drv], .agg #[.int .i64 e0, .int .i64 e1]] w fun e w' => e = .returned (.bool true) ∧ Below w.heap.size w w' := by
  have e2 : sqE [e0, e1] = 2 := by unfold sqE at h1 ⊢; split <;> simp_all
  have HFA : Hid (∀ (A' : Option Addr) (c' : Nat) (W : World), Lies W W.heap.size A' (ps.flatMap pc) → Calls Try.prog 21 #[.agg #[.string s, .slice A' ps.length c'], .agg #[.int .i64 b.brk, .int .i64 b.drag, .int .i64 b.drv], .agg #[.int .i64 e0, .int .i64 e1]] W fun e w' => ∃ g : Hd, e = .returned (.tuple #[.slice g.A 0 g.c, .int .i64 2]) ∧ Below W.heap.size W w') := Lib.hid (fun A' c' W h => by have := Fastest_any s hs ps A' c' (by have := (short_iff.1 hsh).2; omega) b e0 e1 W h; unfold fasE at this; rw [if_neg (by simpa using h0), if_pos h1, e2] at this; exact this.mono fun _ _ h => rowE_bad (by decide) h)
  obtain ⟨u0, hu0⟩ : ∃ u, inB e0 0 20000000000 = u := ⟨_, rfl⟩
  obtain ⟨u1, hu1⟩ : ∃ u, inB e1 0 20000000000 = u := ⟨_, rfl⟩
  have HU : Hid (u0 = true → u1 = true → False) := Lib.hid (fun a b => h1 (sqE_two.2 ⟨inB_iff.1 (hu0.trans a), inB_iff.1 (hu1.trans b)⟩))
  have F0 := Lib.hid (Fr.b3 w 24 #[.string s, .slice A ps.length c] 26 #[.int .i64 b.brk, .int .i64 b.drag, .int .i64 b.drv] 59 #[.int .i64 e0, .int .i64 e1])
  have HA := Lib.hid hA
  have HG := Lib.hid hg
  clear hA hg
  have HSH := Lib.hid hsh
  have hl14 : ps.length ≤ 14 := (short_iff.1 hsh).2
  clear hsh
  have HE := Lib.hid h0
  have HU0 := Lib.hid hu0
  have HU1 := Lib.hid hu1
  clear h0 h1 e2 hu0 hu1
  go_enter Try.func5, Try.ntmps5
  go_wp2_with fail
  refine (awake_any _).mono ?_
  rintro e w1 ⟨rfl, hb1⟩
  have G1 := Fr.call F0.out hb1
  obtain ⟨k0_0, k0_1, kf0, kg0⟩ := (G1.get 2 rfl).two
  have kz0 := (G1.get 2 rfl).lt
  obtain ⟨k1_0, k1_1, k1_2⟩ := (G1.get 1 rfl).three
  have kz1 := (G1.get 1 rfl).lt
  obtain ⟨k2_0, k2_1, kf2, kg2⟩ := (G1.get 0 rfl).two
  have kz2 := (G1.get 0 rfl).lt
  have F1 : Hid (Fr w _ [(w.heap.size + 1 + 1, 59, #[.int .i64 e0, .int .i64 e1]), (w.heap.size + 1, 26, #[.int .i64 b.brk, .int .i64 b.drag, .int .i64 b.drv]), (w.heap.size, 24, #[.string s, .slice A ps.length c])]) := Lib.hid G1
  clear hb1 G1 F0
  go_wp2_with fail
  refine (Short_any s hs ps A c hl _).mono ?_
  rintro e w2 ⟨rfl, hb2⟩
  rw [HSH.out]
  clear k0_0 k0_1 kf0 kg0 kz0 k1_0 k1_1 k1_2 kz1 k2_0 k2_1 kf2 kg2 kz2
  have G2 := Fr.call F1.out hb2
  obtain ⟨k0_0, k0_1, kf0, kg0⟩ := (G2.get 2 rfl).two
  have kz0 := (G2.get 2 rfl).lt
  obtain ⟨k1_0, k1_1, k1_2⟩ := (G2.get 1 rfl).three
  have kz1 := (G2.get 1 rfl).lt
  obtain ⟨k2_0, k2_1, kf2, kg2⟩ := (G2.get 0 rfl).two
  have kz2 := (G2.get 0 rfl).lt
  have F2 : Hid (Fr w _ [(w.heap.size + 1 + 1, 59, #[.int .i64 e0, .int .i64 e1]), (w.heap.size + 1, 26, #[.int .i64 b.brk, .int .i64 b.drag, .int .i64 b.drv]), (w.heap.size, 24, #[.string s, .slice A ps.length c])]) := Lib.hid G2
  clear hb2 G2 F1
  go_upto_region 5 with fail
  clear k0_0 k0_1 kf0 kg0 kz0 k1_0 k1_1 k1_2 kz1 k2_0 k2_1 kf2 kg2 kz2
  go_cut [7, 8] from 17 to 24 (fun r e W => (∃ g : Hd, r = .slice g.A 0 g.c ∧ e = .int .i64 2) ∧ Fr w2 W [])
  case first =>
    have HALL : Hid (∀ W, Fr w2 W [] → Fr w2 W [] ∧ W.cell? ⟨w.heap.size, 0, none⟩ = some (.string s) ∧ W.cell? ⟨w.heap.size, 1, none⟩ = some (.slice A ps.length c) ∧ W.cell? ⟨w.heap.size + 1, 0, none⟩ = some (.int .i64 b.brk) ∧ W.cell? ⟨w.heap.size + 1, 1, none⟩ = some (.int .i64 b.drag) ∧ W.cell? ⟨w.heap.size + 1, 2, none⟩ = some (.int .i64 b.drv) ∧ W.cell? ⟨w.heap.size + 1 + 1, 0, none⟩ = some (.int .i64 e0) ∧ W.cell? ⟨w.heap.size + 1 + 1, 1, none⟩ = some (.int .i64 e1)) := Lib.hid (fun W hW => ⟨hW, ((F2.out.get 2 rfl).call hW.bl).cell 0, ((F2.out.get 2 rfl).call hW.bl).cell 1, ((F2.out.get 1 rfl).call hW.bl).cell 0, ((F2.out.get 1 rfl).call hW.bl).cell 1, ((F2.out.get 1 rfl).call hW.bl).cell 2, ((F2.out.get 0 rfl).call hW.bl).cell 0, ((F2.out.get 0 rfl).call hW.bl).cell 1⟩)
    have HAC := Lib.hid (Fr.lies HA.out F2.out)
    have F10 : Fr w2 _ [] := Fr.nil w2
    go_region_held3 (fun W => Fr w2 W [] ∧ W.cell? ⟨w.heap.size, 0, none⟩ = some (.string s) ∧ W.cell? ⟨w.heap.size, 1, none⟩ = some (.slice A ps.length c) ∧ W.cell? ⟨w.heap.size + 1, 0, none⟩ = some (.int .i64 b.brk) ∧ W.cell? ⟨w.heap.size + 1, 1, none⟩ = some (.int .i64 b.drag) ∧ W.cell? ⟨w.heap.size + 1, 2, none⟩ = some (.int .i64 b.drv) ∧ W.cell? ⟨w.heap.size + 1 + 1, 0, none⟩ = some (.int .i64 e0) ∧ W.cell? ⟨w.heap.size + 1 + 1, 1, none⟩ = some (.int .i64 e1))
        ((go_split_ands; refine HALL.out _ ?_; (first | assumption | (repeat (first | assumption | refine Fr.new ?_ _ | refine Fr.drew ?_ | (refine Fr.set ?_ (by first | exact Nat.le_refl _ | omega | (simp; done) | (simp; omega)) (by first | (simp; done) | (simp; omega)) _))); done)))
        ((first
          | (go_at_call 13; go_split_ands; (with_reducible refine (Copy_any s ps ⟨A, c⟩ (by omega) HG.out _ (Fr.lies HAC.out (by assumption))).mono ?_); rintro e w1 ⟨g2, rfl, hl2, hk2, hb1⟩; have HL2 := Lib.hid hl2; have F4 := Fr.call (by assumption) hb1; clear hb1 hl2 hk2)
          | (go_at_call 21; go_split_ands; (with_reducible refine (HFA.out _ _ _ HL2.out).mono ?_); rintro e w1 ⟨g3, rfl, hb1⟩; have F5 := Fr.call (by assumption) hb1; clear hb1)
          | fail "arm"))
    all_goals
      go_split_ands
      go_wp2_with fail
      go_meet
      exact ⟨⟨g3, rfl, rfl⟩, by assumption⟩
  case rest =>
    obtain ⟨wx2, rfl⟩ : ∃ W, W = wc := ⟨_, rfl⟩
    obtain ⟨⟨gx5, rfl, rfl⟩, hx⟩ := hcut
    have FC2 := Lib.hid (F2.out.call hx.bl)
    clear hx F2
    obtain ⟨k0_0, k0_1, kf0, kg0⟩ := (FC2.out.get 2 rfl).two
    have kz0 := (FC2.out.get 2 rfl).lt
    obtain ⟨k1_0, k1_1, k1_2⟩ := (FC2.out.get 1 rfl).three
    have kz1 := (FC2.out.get 1 rfl).lt
    obtain ⟨k2_0, k2_1, kf2, kg2⟩ := (FC2.out.get 0 rfl).two
    have kz2 := (FC2.out.get 0 rfl).lt
    go_wp2_with fail
    refine (BothErr_any s hs ps A c hl b _ (Fr.lies HA.out FC2.out)).mono ?_
    rintro e w3 ⟨rfl, hb3⟩
    rw [HE.out]
    clear k0_0 k0_1 kf0 kg0 kz0 k1_0 k1_1 k1_2 kz1 k2_0 k2_1 kf2 kg2 kz2
    have G3 := Fr.call FC2.out hb3
    obtain ⟨k0_0, k0_1, kf0, kg0⟩ := (G3.get 2 rfl).two
    have kz0 := (G3.get 2 rfl).lt
    obtain ⟨k1_0, k1_1, k1_2⟩ := (G3.get 1 rfl).three
    have kz1 := (G3.get 1 rfl).lt
    obtain ⟨k2_0, k2_1, kf2, kg2⟩ := (G3.get 0 rfl).two
    have kz2 := (G3.get 0 rfl).lt
    have F3 : Hid (Fr w _ [(w.heap.size + 1 + 1, 59, #[.int .i64 e0, .int .i64 e1]), (w.heap.size + 1, 26, #[.int .i64 b.brk, .int .i64 b.drag, .int .i64 b.drv]), (w.heap.size, 24, #[.string s, .slice A ps.length c])]) := Lib.hid G3
    clear hb3 G3 FC2
    cases u0 with
    | false =>
      go_wp2_with (go_at_call 16; refine (Within_any _ _ _ _).mono ?_; rintro e w' ⟨rfl, rfl⟩; (first | rw [HU0.out] | rw [HU1.out]))
      go_ret
      exact ⟨rfl, F3.out.bl⟩
    | true =>
      cases u1 with
      | false =>
        go_wp2_with (go_at_call 16; refine (Within_any _ _ _ _).mono ?_; rintro e w' ⟨rfl, rfl⟩; (first | rw [HU0.out] | rw [HU1.out]))
        go_ret
        exact ⟨rfl, F3.out.bl⟩
      | true => exact (HU.out rfl rfl).elim

set_option maxHeartbeats 8000000 in
set_option maxRecDepth 100000 in
theorem fa_ok0 (s : ByteArray) (hs : s.size ≤ maxLen) (ps : List Bp) (A : Option Addr) (c : Nat) (hg : HdOk ⟨A, c⟩) (hl : ps.length ≤ maxLen) (b : Bs) (e0 e1 : Int) (hsh : shortB s ps = true) (h0 : bothE s ps b = 0) (h1 : sqE [e0, e1] = 0) (hf : fasB ps b e0 e1 = false) (w : World) (hA : Lies w w.heap.size A (ps.flatMap pc)) : Calls Try.prog 5 #[.agg #[.string s, .slice A ps.length c], .agg #[.int .i64 b.brk, .int .i64 b.drag, .int .i64 b.drv], .agg #[.int .i64 e0, .int .i64 e1]] w fun e w' => e = .returned (.bool true) ∧ Below w.heap.size w w' := by
  obtain ⟨hok, hb⟩ := bothE_zero h0
  obtain ⟨he0, he1⟩ := sqE_two.1 h1
  obtain ⟨a, rfl⟩ := ps_some hA hok.n0
  obtain ⟨N, hN⟩ : ∃ N, N = ps.length + 1 := ⟨_, rfl⟩
  have HU0 := Lib.hid (inB_iff.2 he0)
  have HU1 := Lib.hid (inB_iff.2 he1)
  have HFA : Hid (∀ (A' : Option Addr) (c' : Nat) (W : World), Lies W W.heap.size A' (ps.flatMap pc) → Calls Try.prog 21 #[.agg #[.string s, .slice A' ps.length c'], .agg #[.int .i64 b.brk, .int .i64 b.drag, .int .i64 b.drv], .agg #[.int .i64 e0, .int .i64 e1]] W fun e w' => ∃ g : Hd, e = .returned (.tuple #[.slice g.A 0 g.c, .int .i64 12]) ∧ Below W.heap.size W w') := Lib.hid (fun A' c' W h => by have := Fastest_any s hs ps A' c' (by have := (short_iff.1 hsh).2; omega) b e0 e1 W h; unfold fasE at this; rw [if_neg (by simpa using h0), if_neg (by simpa using h1), hf] at this; rw [if_neg (by simp)] at this; exact this.mono fun _ _ h => rowE_bad (by decide) h)
  have HRF : Hid (∀ W, Lies W W.heap.size (some a) (ps.flatMap pc) → Calls Try.prog 22 #[.agg #[.string s, .slice (some a) ps.length c], .agg #[.int .i64 b.brk, .int .i64 b.drag, .int .i64 b.drv], .agg #[.int .i64 e0, .int .i64 e1]] W fun e w' => ∃ g : Hd, e = .returned (.tuple #[.slice g.A 0 g.c, .bool false]) ∧ Below W.heap.size W w') := Lib.hid (fun W h => by have := refFastest_any s ps a c b hb hok.n0 hok.n12 hok.each e0 e1 he0 he1 W h; rw [hf] at this; exact this.mono fun _ _ h => rowB_no h)
  have F0 := Lib.hid (Fr.b3 w 24 #[.string s, .slice (some a) ps.length c] 26 #[.int .i64 b.brk, .int .i64 b.drag, .int .i64 b.drv] 59 #[.int .i64 e0, .int .i64 e1])
  have HA := Lib.hid hA
  have HG := Lib.hid hg
  clear hA hg
  have HSH := Lib.hid hsh
  have hl14 : ps.length ≤ 14 := (short_iff.1 hsh).2
  clear hsh
  have HE := Lib.hid h0
  have h12 : N ≤ 13 := by have := hok.n12; omega
  clear h0 h1 hf hok hb he0 he1 hN
  go_enter Try.func5, Try.ntmps5
  go_wp2_with fail
  refine (awake_any _).mono ?_
  rintro e w1 ⟨rfl, hb1⟩
  have G1 := Fr.call F0.out hb1
  obtain ⟨k0_0, k0_1, kf0, kg0⟩ := (G1.get 2 rfl).two
  have kz0 := (G1.get 2 rfl).lt
  obtain ⟨k1_0, k1_1, k1_2⟩ := (G1.get 1 rfl).three
  have kz1 := (G1.get 1 rfl).lt
  obtain ⟨k2_0, k2_1, kf2, kg2⟩ := (G1.get 0 rfl).two
  have kz2 := (G1.get 0 rfl).lt
  have F1 : Hid (Fr w _ [(w.heap.size + 1 + 1, 59, #[.int .i64 e0, .int .i64 e1]), (w.heap.size + 1, 26, #[.int .i64 b.brk, .int .i64 b.drag, .int .i64 b.drv]), (w.heap.size, 24, #[.string s, .slice (some a) ps.length c])]) := Lib.hid G1
  clear hb1 G1 F0
  go_wp2_with fail
  refine (Short_any s hs ps (some a) c hl _).mono ?_
  rintro e w2 ⟨rfl, hb2⟩
  rw [HSH.out]
  clear k0_0 k0_1 kf0 kg0 kz0 k1_0 k1_1 k1_2 kz1 k2_0 k2_1 kf2 kg2 kz2
  have G2 := Fr.call F1.out hb2
  obtain ⟨k0_0, k0_1, kf0, kg0⟩ := (G2.get 2 rfl).two
  have kz0 := (G2.get 2 rfl).lt
  obtain ⟨k1_0, k1_1, k1_2⟩ := (G2.get 1 rfl).three
  have kz1 := (G2.get 1 rfl).lt
  obtain ⟨k2_0, k2_1, kf2, kg2⟩ := (G2.get 0 rfl).two
  have kz2 := (G2.get 0 rfl).lt
  have F2 : Hid (Fr w _ [(w.heap.size + 1 + 1, 59, #[.int .i64 e0, .int .i64 e1]), (w.heap.size + 1, 26, #[.int .i64 b.brk, .int .i64 b.drag, .int .i64 b.drv]), (w.heap.size, 24, #[.string s, .slice (some a) ps.length c])]) := Lib.hid G2
  clear hb2 G2 F1
  go_upto_region 5 with fail
  clear k0_0 k0_1 kf0 kg0 kz0 k1_0 k1_1 k1_2 kz1 k2_0 k2_1 kf2 kg2 kz2
  go_cut [7, 8] from 17 to 24 (fun r e W => (∃ g : Hd, r = .slice g.A 0 g.c ∧ e = .int .i64 12) ∧ Fr w2 W [])
  case first =>
    have HALL : Hid (∀ W, Fr w2 W [] → Fr w2 W [] ∧ W.cell? ⟨w.heap.size, 0, none⟩ = some (.string s) ∧ W.cell? ⟨w.heap.size, 1, none⟩ = some (.slice (some a) ps.length c) ∧ W.cell? ⟨w.heap.size + 1, 0, none⟩ = some (.int .i64 b.brk) ∧ W.cell? ⟨w.heap.size + 1, 1, none⟩ = some (.int .i64 b.drag) ∧ W.cell? ⟨w.heap.size + 1, 2, none⟩ = some (.int .i64 b.drv) ∧ W.cell? ⟨w.heap.size + 1 + 1, 0, none⟩ = some (.int .i64 e0) ∧ W.cell? ⟨w.heap.size + 1 + 1, 1, none⟩ = some (.int .i64 e1)) := Lib.hid (fun W hW => ⟨hW, ((F2.out.get 2 rfl).call hW.bl).cell 0, ((F2.out.get 2 rfl).call hW.bl).cell 1, ((F2.out.get 1 rfl).call hW.bl).cell 0, ((F2.out.get 1 rfl).call hW.bl).cell 1, ((F2.out.get 1 rfl).call hW.bl).cell 2, ((F2.out.get 0 rfl).call hW.bl).cell 0, ((F2.out.get 0 rfl).call hW.bl).cell 1⟩)
    have HAC := Lib.hid (Fr.lies HA.out F2.out)
    have F10 : Fr w2 _ [] := Fr.nil w2
    go_region_held3 (fun W => Fr w2 W [] ∧ W.cell? ⟨w.heap.size, 0, none⟩ = some (.string s) ∧ W.cell? ⟨w.heap.size, 1, none⟩ = some (.slice (some a) ps.length c) ∧ W.cell? ⟨w.heap.size + 1, 0, none⟩ = some (.int .i64 b.brk) ∧ W.cell? ⟨w.heap.size + 1, 1, none⟩ = some (.int .i64 b.drag) ∧ W.cell? ⟨w.heap.size + 1, 2, none⟩ = some (.int .i64 b.drv) ∧ W.cell? ⟨w.heap.size + 1 + 1, 0, none⟩ = some (.int .i64 e0) ∧ W.cell? ⟨w.heap.size + 1 + 1, 1, none⟩ = some (.int .i64 e1))
        ((go_split_ands; refine HALL.out _ ?_; (first | assumption | (repeat (first | assumption | refine Fr.new ?_ _ | refine Fr.drew ?_ | (refine Fr.set ?_ (by first | exact Nat.le_refl _ | omega | (simp; done) | (simp; omega)) (by first | (simp; done) | (simp; omega)) _))); done)))
        ((first
          | (go_at_call 13; go_split_ands; (with_reducible refine (Copy_any s ps ⟨(some a), c⟩ (by omega) HG.out _ (Fr.lies HAC.out (by assumption))).mono ?_); rintro e w1 ⟨g2, rfl, hl2, hk2, hb1⟩; have HL2 := Lib.hid hl2; have F4 := Fr.call (by assumption) hb1; clear hb1 hl2 hk2)
          | (go_at_call 21; go_split_ands; (with_reducible refine (HFA.out _ _ _ HL2.out).mono ?_); rintro e w1 ⟨g3, rfl, hb1⟩; have F5 := Fr.call (by assumption) hb1; clear hb1)
          | fail "arm"))
    all_goals
      go_split_ands
      go_wp2_with fail
      go_meet
      exact ⟨⟨g3, rfl, rfl⟩, by assumption⟩
  case rest =>
    obtain ⟨wx3, rfl⟩ : ∃ W, W = wc := ⟨_, rfl⟩
    obtain ⟨⟨gx5, rfl, rfl⟩, hx⟩ := hcut
    have FC3 := Lib.hid (F2.out.call hx.bl)
    clear hx F2
    obtain ⟨k0_0, k0_1, kf0, kg0⟩ := (FC3.out.get 2 rfl).two
    have kz0 := (FC3.out.get 2 rfl).lt
    obtain ⟨k1_0, k1_1, k1_2⟩ := (FC3.out.get 1 rfl).three
    have kz1 := (FC3.out.get 1 rfl).lt
    obtain ⟨k2_0, k2_1, kf2, kg2⟩ := (FC3.out.get 0 rfl).two
    have kz2 := (FC3.out.get 0 rfl).lt
    go_wp2_with fail
    refine (BothErr_any s hs ps (some a) c hl b _ (Fr.lies HA.out FC3.out)).mono ?_
    rintro e w3 ⟨rfl, hb3⟩
    rw [HE.out]
    clear k0_0 k0_1 kf0 kg0 kz0 k1_0 k1_1 k1_2 kz1 k2_0 k2_1 kf2 kg2 kz2
    have G3 := Fr.call FC3.out hb3
    obtain ⟨k0_0, k0_1, kf0, kg0⟩ := (G3.get 2 rfl).two
    have kz0 := (G3.get 2 rfl).lt
    obtain ⟨k1_0, k1_1, k1_2⟩ := (G3.get 1 rfl).three
    have kz1 := (G3.get 1 rfl).lt
    obtain ⟨k2_0, k2_1, kf2, kg2⟩ := (G3.get 0 rfl).two
    have kz2 := (G3.get 0 rfl).lt
    have F3 : Hid (Fr w _ [(w.heap.size + 1 + 1, 59, #[.int .i64 e0, .int .i64 e1]), (w.heap.size + 1, 26, #[.int .i64 b.brk, .int .i64 b.drag, .int .i64 b.drv]), (w.heap.size, 24, #[.string s, .slice (some a) ps.length c])]) := Lib.hid G3
    clear hb3 G3 FC3
    go_wp2_with (go_at_call 16; refine (Within_any _ _ _ _).mono ?_; rintro e w' ⟨rfl, rfl⟩; (first | rw [HU0.out] | rw [HU1.out]))
    refine (HRF.out _ (Fr.lies HA.out F3.out)).mono ?_
    rintro e w4 ⟨g6, rfl, hb4⟩
    have G6 := Lib.hid (F3.out.call hb4)
    clear hb4 F3 k0_0 k0_1 kf0 kg0 kz0 k1_0 k1_1 k1_2 kz1 k2_0 k2_1 kf2 kg2 kz2
    go_wp2_with fail
    go_ret
    exact ⟨rfl, G6.out.bl⟩

set_option maxHeartbeats 8000000 in
set_option maxRecDepth 100000 in
theorem fa_ok1 (s : ByteArray) (hs : s.size ≤ maxLen) (ps : List Bp) (A : Option Addr) (c : Nat) (hg : HdOk ⟨A, c⟩) (hl : ps.length ≤ maxLen) (b : Bs) (e0 e1 : Int) (hsh : shortB s ps = true) (h0 : bothE s ps b = 0) (h1 : sqE [e0, e1] = 0) (hf : fasB ps b e0 e1 = true) (w : World) (hA : Lies w w.heap.size A (ps.flatMap pc)) : Calls Try.prog 5 #[.agg #[.string s, .slice A ps.length c], .agg #[.int .i64 b.brk, .int .i64 b.drag, .int .i64 b.drv], .agg #[.int .i64 e0, .int .i64 e1]] w fun e w' => e = .returned (.bool true) ∧ Below w.heap.size w w' := by
  obtain ⟨hok, hb⟩ := bothE_zero h0
  obtain ⟨he0, he1⟩ := sqE_two.1 h1
  obtain ⟨a, rfl⟩ := ps_some hA hok.n0
  obtain ⟨N, hN⟩ : ∃ N, N = ps.length + 1 := ⟨_, rfl⟩
  have HU0 := Lib.hid (inB_iff.2 he0)
  have HU1 := Lib.hid (inB_iff.2 he1)
  have HFA : Hid (∀ (A' : Option Addr) (c' : Nat) (W : World), Lies W W.heap.size A' (ps.flatMap pc) → Calls Try.prog 21 #[.agg #[.string s, .slice A' ps.length c'], .agg #[.int .i64 b.brk, .int .i64 b.drag, .int .i64 b.drv], .agg #[.int .i64 e0, .int .i64 e1]] W fun e w' => ∃ g : Hd, e = .returned (.tuple #[.slice g.A N g.c, .int .i64 0]) ∧ Lies w' w'.heap.size g.A (ic (listF N (fwV ps b e0 e1))) ∧ Below W.heap.size W w') := Lib.hid (fun A' c' W h => by have := Fastest_any s hs ps A' c' (by have := (short_iff.1 hsh).2; omega) b e0 e1 W h; unfold fasE at this; rw [if_neg (by simpa using h0), if_neg (by simpa using h1), hf] at this; rw [if_pos rfl, ← hN] at this; exact this.mono fun _ _ h => rowE_ok h)
  have HRF : Hid (∀ W, Lies W W.heap.size (some a) (ps.flatMap pc) → Calls Try.prog 22 #[.agg #[.string s, .slice (some a) ps.length c], .agg #[.int .i64 b.brk, .int .i64 b.drag, .int .i64 b.drv], .agg #[.int .i64 e0, .int .i64 e1]] W fun e w' => ∃ g : Hd, e = .returned (.tuple #[.slice g.A N g.c, .bool true]) ∧ Lies w' w'.heap.size g.A (ic (listF N (fwV ps b e0 e1))) ∧ Below W.heap.size W w') := Lib.hid (fun W h => by have := refFastest_any s ps a c b hb hok.n0 hok.n12 hok.each e0 e1 he0 he1 W h; rw [hf, ← hN] at this; exact this.mono fun _ _ h => rowB_yes h)
  have F0 := Lib.hid (Fr.b3 w 24 #[.string s, .slice (some a) ps.length c] 26 #[.int .i64 b.brk, .int .i64 b.drag, .int .i64 b.drv] 59 #[.int .i64 e0, .int .i64 e1])
  have HA := Lib.hid hA
  have HG := Lib.hid hg
  clear hA hg
  have HSH := Lib.hid hsh
  have hl14 : ps.length ≤ 14 := (short_iff.1 hsh).2
  clear hsh
  have HE := Lib.hid h0
  have h12 : N ≤ 13 := by have := hok.n12; omega
  clear h0 h1 hf hok hb he0 he1 hN
  go_enter Try.func5, Try.ntmps5
  go_wp2_with fail
  refine (awake_any _).mono ?_
  rintro e w1 ⟨rfl, hb1⟩
  have G1 := Fr.call F0.out hb1
  obtain ⟨k0_0, k0_1, kf0, kg0⟩ := (G1.get 2 rfl).two
  have kz0 := (G1.get 2 rfl).lt
  obtain ⟨k1_0, k1_1, k1_2⟩ := (G1.get 1 rfl).three
  have kz1 := (G1.get 1 rfl).lt
  obtain ⟨k2_0, k2_1, kf2, kg2⟩ := (G1.get 0 rfl).two
  have kz2 := (G1.get 0 rfl).lt
  have F1 : Hid (Fr w _ [(w.heap.size + 1 + 1, 59, #[.int .i64 e0, .int .i64 e1]), (w.heap.size + 1, 26, #[.int .i64 b.brk, .int .i64 b.drag, .int .i64 b.drv]), (w.heap.size, 24, #[.string s, .slice (some a) ps.length c])]) := Lib.hid G1
  clear hb1 G1 F0
  go_wp2_with fail
  refine (Short_any s hs ps (some a) c hl _).mono ?_
  rintro e w2 ⟨rfl, hb2⟩
  rw [HSH.out]
  clear k0_0 k0_1 kf0 kg0 kz0 k1_0 k1_1 k1_2 kz1 k2_0 k2_1 kf2 kg2 kz2
  have G2 := Fr.call F1.out hb2
  obtain ⟨k0_0, k0_1, kf0, kg0⟩ := (G2.get 2 rfl).two
  have kz0 := (G2.get 2 rfl).lt
  obtain ⟨k1_0, k1_1, k1_2⟩ := (G2.get 1 rfl).three
  have kz1 := (G2.get 1 rfl).lt
  obtain ⟨k2_0, k2_1, kf2, kg2⟩ := (G2.get 0 rfl).two
  have kz2 := (G2.get 0 rfl).lt
  have F2 : Hid (Fr w _ [(w.heap.size + 1 + 1, 59, #[.int .i64 e0, .int .i64 e1]), (w.heap.size + 1, 26, #[.int .i64 b.brk, .int .i64 b.drag, .int .i64 b.drv]), (w.heap.size, 24, #[.string s, .slice (some a) ps.length c])]) := Lib.hid G2
  clear hb2 G2 F1
  go_upto_region 5 with fail
  clear k0_0 k0_1 kf0 kg0 kz0 k1_0 k1_1 k1_2 kz1 k2_0 k2_1 kf2 kg2 kz2
  go_cut [7, 8] from 17 to 24 (fun r e W => (∃ g : Hd, r = .slice g.A (N : Nat) g.c ∧ e = .int .i64 0 ∧ Lies W W.heap.size g.A (ic (listF N (fwV ps b e0 e1)))) ∧ Fr w2 W [])
  case first =>
    have HALL : Hid (∀ W, Fr w2 W [] → Fr w2 W [] ∧ W.cell? ⟨w.heap.size, 0, none⟩ = some (.string s) ∧ W.cell? ⟨w.heap.size, 1, none⟩ = some (.slice (some a) ps.length c) ∧ W.cell? ⟨w.heap.size + 1, 0, none⟩ = some (.int .i64 b.brk) ∧ W.cell? ⟨w.heap.size + 1, 1, none⟩ = some (.int .i64 b.drag) ∧ W.cell? ⟨w.heap.size + 1, 2, none⟩ = some (.int .i64 b.drv) ∧ W.cell? ⟨w.heap.size + 1 + 1, 0, none⟩ = some (.int .i64 e0) ∧ W.cell? ⟨w.heap.size + 1 + 1, 1, none⟩ = some (.int .i64 e1)) := Lib.hid (fun W hW => ⟨hW, ((F2.out.get 2 rfl).call hW.bl).cell 0, ((F2.out.get 2 rfl).call hW.bl).cell 1, ((F2.out.get 1 rfl).call hW.bl).cell 0, ((F2.out.get 1 rfl).call hW.bl).cell 1, ((F2.out.get 1 rfl).call hW.bl).cell 2, ((F2.out.get 0 rfl).call hW.bl).cell 0, ((F2.out.get 0 rfl).call hW.bl).cell 1⟩)
    have HAC := Lib.hid (Fr.lies HA.out F2.out)
    have F10 : Fr w2 _ [] := Fr.nil w2
    go_region_held3 (fun W => Fr w2 W [] ∧ W.cell? ⟨w.heap.size, 0, none⟩ = some (.string s) ∧ W.cell? ⟨w.heap.size, 1, none⟩ = some (.slice (some a) ps.length c) ∧ W.cell? ⟨w.heap.size + 1, 0, none⟩ = some (.int .i64 b.brk) ∧ W.cell? ⟨w.heap.size + 1, 1, none⟩ = some (.int .i64 b.drag) ∧ W.cell? ⟨w.heap.size + 1, 2, none⟩ = some (.int .i64 b.drv) ∧ W.cell? ⟨w.heap.size + 1 + 1, 0, none⟩ = some (.int .i64 e0) ∧ W.cell? ⟨w.heap.size + 1 + 1, 1, none⟩ = some (.int .i64 e1))
        ((go_split_ands; refine HALL.out _ ?_; (first | assumption | (repeat (first | assumption | refine Fr.new ?_ _ | refine Fr.drew ?_ | (refine Fr.set ?_ (by first | exact Nat.le_refl _ | omega | (simp; done) | (simp; omega)) (by first | (simp; done) | (simp; omega)) _))); done)))
        ((first
          | (go_at_call 13; go_split_ands; (with_reducible refine (Copy_any s ps ⟨(some a), c⟩ (by omega) HG.out _ (Fr.lies HAC.out (by assumption))).mono ?_); rintro e w1 ⟨g2, rfl, hl2, hk2, hb1⟩; have HL2 := Lib.hid hl2; have F4 := Fr.call (by assumption) hb1; clear hb1 hl2 hk2)
          | (go_at_call 21; go_split_ands; (with_reducible refine (HFA.out _ _ _ HL2.out).mono ?_); rintro e w1 ⟨g3, rfl, hl3, hb1⟩; have HL3 := Lib.hid hl3; have F5 := Fr.call (by assumption) hb1; clear hb1 hl3)
          | fail "arm"))
    all_goals
      go_split_ands
      go_wp2_with fail
      go_meet
      exact ⟨⟨g3, rfl, rfl, HL3.out⟩, by assumption⟩
  case rest =>
    obtain ⟨wx4, rfl⟩ : ∃ W, W = wc := ⟨_, rfl⟩
    obtain ⟨⟨gx5, rfl, rfl, hy5⟩, hx⟩ := hcut
    have FC4 := Lib.hid (F2.out.call hx.bl)
    clear hx F2
    obtain ⟨k0_0, k0_1, kf0, kg0⟩ := (FC4.out.get 2 rfl).two
    have kz0 := (FC4.out.get 2 rfl).lt
    obtain ⟨k1_0, k1_1, k1_2⟩ := (FC4.out.get 1 rfl).three
    have kz1 := (FC4.out.get 1 rfl).lt
    obtain ⟨k2_0, k2_1, kf2, kg2⟩ := (FC4.out.get 0 rfl).two
    have kz2 := (FC4.out.get 0 rfl).lt
    have Y5 := Lib.hid hy5
    clear hy5
    go_wp2_with fail
    refine (BothErr_any s hs ps (some a) c hl b _ (Fr.lies HA.out FC4.out)).mono ?_
    rintro e w3 ⟨rfl, hb3⟩
    rw [HE.out]
    clear k0_0 k0_1 kf0 kg0 kz0 k1_0 k1_1 k1_2 kz1 k2_0 k2_1 kf2 kg2 kz2
    have G3 := Fr.call FC4.out hb3
    have Y5 := Lib.hid (Lies.call Y5.out hb3)
    obtain ⟨k0_0, k0_1, kf0, kg0⟩ := (G3.get 2 rfl).two
    have kz0 := (G3.get 2 rfl).lt
    obtain ⟨k1_0, k1_1, k1_2⟩ := (G3.get 1 rfl).three
    have kz1 := (G3.get 1 rfl).lt
    obtain ⟨k2_0, k2_1, kf2, kg2⟩ := (G3.get 0 rfl).two
    have kz2 := (G3.get 0 rfl).lt
    have F3 : Hid (Fr w _ [(w.heap.size + 1 + 1, 59, #[.int .i64 e0, .int .i64 e1]), (w.heap.size + 1, 26, #[.int .i64 b.brk, .int .i64 b.drag, .int .i64 b.drv]), (w.heap.size, 24, #[.string s, .slice (some a) ps.length c])]) := Lib.hid G3
    clear hb3 G3 FC4
    go_wp2_with (go_at_call 16; refine (Within_any _ _ _ _).mono ?_; rintro e w' ⟨rfl, rfl⟩; (first | rw [HU0.out] | rw [HU1.out]))
    refine (HRF.out _ (Fr.lies HA.out F3.out)).mono ?_
    rintro e w4 ⟨g6, rfl, hy6, hb4⟩
    have Y6 := Lib.hid hy6
    have Y5 := Lib.hid (Lies.call Y5.out hb4)
    clear hy6
    have G6 := Lib.hid (F3.out.call hb4)
    clear hb4 F3 k0_0 k0_1 kf0 kg0 kz0 k1_0 k1_1 k1_2 kz1 k2_0 k2_1 kf2 kg2 kz2
    go_wp2_with fail
    refine (Ints_listF N (fwV ps b e0 e1) (by omega) _ _ _ _ _ Y5.out Y6.out).mono ?_
    rintro e w9 ⟨rfl, hb9⟩
    have G9 := Lib.hid (G6.out.call hb9)
    clear hb9 G6
    go_wp2_with fail
    go_ret
    exact ⟨rfl, G9.out.bl⟩

set_option maxHeartbeats 8000000 in
set_option maxRecDepth 100000 in
theorem BrakeFastest_any (s : ByteArray) (hs : s.size ≤ maxLen) (ps : List Bp) (A : Option Addr) (c : Nat) (hg : HdOk ⟨A, c⟩) (hl : ps.length ≤ maxLen) (b : Bs) (e0 e1 : Int) (w : World) (hA : Lies w w.heap.size A (ps.flatMap pc)) : Calls Try.prog 5 #[.agg #[.string s, .slice A ps.length c], .agg #[.int .i64 b.brk, .int .i64 b.drag, .int .i64 b.drv], .agg #[.int .i64 e0, .int .i64 e1]] w fun e w' => e = .returned (.bool true) ∧ Below w.heap.size w w' := by
  cases hsh : shortB s ps with
  | false => exact fa_long s hs ps A c hg hl b e0 e1 hsh w hA
  | true =>
    by_cases h0 : bothE s ps b = 0
    · by_cases h1 : sqE [e0, e1] = 0
      · cases hf : fasB ps b e0 e1 with
        | true => exact fa_ok1 s hs ps A c hg hl b e0 e1 hsh h0 h1 hf w hA
        | false => exact fa_ok0 s hs ps A c hg hl b e0 e1 hsh h0 h1 hf w hA
      · exact fa_bad1 s hs ps A c hg hl b e0 e1 hsh h0 h1 w hA
    · exact fa_bad0 s hs ps A c hg hl b e0 e1 hsh _ h0 rfl w hA
end Go.Proofs.Ytbicmbnhlnmdfaa
