
/-
  The walk of StatorTracks.
-/
import Derived.Test.YtemjefhfplaibaaDoorTCp
import Derived.Test.YtemjefhfplaibaaDoorTTrR
import Derived.Test.YtemjefhfplaibaaDoorTOvR
namespace Go.Proofs.YtemjefhfplaibaaDoor
open Go.RowKit

theorem Ints_ov (ls : List Int) (p len : Int) (hl : ls.length ≤ 1000) (A B : Option Addr) (c d : Nat) (w : World) (hA : Lies w w.heap.size A (ic (ovL ls p len))) (hB : Lies w w.heap.size B (ic (ovL ls p len))) :
    Calls Tryd.prog 34 #[.slice A ls.length c, .slice B ls.length d] w fun e w' => e = .returned (.bool true) ∧ Below w.heap.size w w' := by
  have := Ints_same (ovL ls p len) A B c d (by rw [ovL_len]; unfold maxLen; omega) w hA hB
  rw [ovL_len] at this
  exact this

set_option maxHeartbeats 4000000 in
set_option maxRecDepth 100000 in
theorem tracks_track (ls : List Int) (gt : Hd) (hg : HdOk gt) (p len : Int) (hl : ls.length ≤ 14) (at_ er : Int) (ht : trkE ls = (at_, er)) (hr : er ≠ 0) (w : World) (hT : Tab w) (hA : Lies w w.heap.size gt.A (ic ls)) : Calls Tryd.prog 5 #[.agg #[.slice gt.A ls.length gt.c], .agg #[.int .i64 p, .int .i64 len]] w fun e w' => e = .returned (.bool true) ∧ Below w.heap.size w w' := by
  have F0 := Lib.hid (Fr.b2 w 49 #[.slice gt.A ls.length gt.c] 51 #[.int .i64 p, .int .i64 len])
  have T0 := Lib.hid ((hT.new (.cells #[.slice gt.A ls.length gt.c] 49)).new (.cells #[.int .i64 p, .int .i64 len] 51))
  clear hT
  have HA := Lib.hid hA
  have HG := Lib.hid hg
  clear hA hg
  have HS : Hid (decide ((ls.length : Int) ≤ 14) = true) := Lib.hid (by simp; omega)
  have hl14 : ls.length ≤ 14 := hl
  clear hl
  have HT := Lib.hid ht
  have HPE : Hid (plcE ls p len = er) := Lib.hid (by rw [plc_trk (by rw [ht]; exact hr), ht])
  have HR2 := Lib.hid hr
  have ge : (er == 0) = false := by simp [hr]
  have gn : (er != 0) = true := by simp [hr]
  clear ht hr
  go_enter Tryd.func5, Tryd.ntmps5
  go_wp2_with fail
  refine (awake_any _ T0.out).mono ?_
  rintro e w1 ⟨rfl, hb1⟩
  have G1 := Fr.call F0.out hb1
  obtain ⟨k0_0, kf0⟩ := (G1.get 1 rfl).one
  have kz0 := (G1.get 1 rfl).lt
  obtain ⟨k1_0, k1_1, kf1, kg1⟩ := (G1.get 0 rfl).two
  have kz1 := (G1.get 0 rfl).lt
  have F1 : Hid (Fr w _ [(w.heap.size + 1, 51, #[.int .i64 p, .int .i64 len]), (w.heap.size, 49, #[.slice gt.A ls.length gt.c])]) := Lib.hid G1
  clear hb1 G1 F0
  go_wp2_with fail
  refine (sections_any gt.A ls.length gt.c _).mono ?_
  rintro e w2 ⟨rfl, hb2⟩
  rw [HS.out]
  clear k0_0 kf0 kz0 k1_0 k1_1 kf1 kg1 kz1
  have G2 := Fr.call F1.out hb2
  obtain ⟨k0_0, kf0⟩ := (G2.get 1 rfl).one
  have kz0 := (G2.get 1 rfl).lt
  obtain ⟨k1_0, k1_1, kf1, kg1⟩ := (G2.get 0 rfl).two
  have kz1 := (G2.get 0 rfl).lt
  have F2 : Hid (Fr w _ [(w.heap.size + 1, 51, #[.int .i64 p, .int .i64 len]), (w.heap.size, 49, #[.slice gt.A ls.length gt.c])]) := Lib.hid G2
  clear hb2 G2 F1
  go_wp2_with fail
  refine (CopyTrack_any ls gt (by omega) HG.out _ (Fr.lies HA.out F2.out)).mono ?_
  rintro e w3 ⟨g1, rfl, hl1, hk1, hb3⟩
  clear k0_0 kf0 kz0 k1_0 k1_1 kf1 kg1 kz1
  have G3 := Fr.call F2.out hb3
  have HL1 := Lib.hid hl1
  obtain ⟨k0_0, kf0⟩ := (G3.get 1 rfl).one
  have kz0 := (G3.get 1 rfl).lt
  obtain ⟨k1_0, k1_1, kf1, kg1⟩ := (G3.get 0 rfl).two
  have kz1 := (G3.get 0 rfl).lt
  have F3 : Hid (Fr w _ [(w.heap.size + 1, 51, #[.int .i64 p, .int .i64 len]), (w.heap.size, 49, #[.slice gt.A ls.length gt.c])]) := Lib.hid G3
  clear hb3 G3 F2
  clear hl1 hk1
  go_wp2_with fail
  refine (CheckTrack_any ls g1.A g1.c (by unfold maxLen; omega) _ HL1.out).mono ?_
  rintro e w4 ⟨rfl, hb4⟩
  rw [HT.out]
  clear k0_0 kf0 kz0 k1_0 k1_1 kf1 kg1 kz1
  have G4 := Fr.call F3.out hb4
  obtain ⟨k0_0, kf0⟩ := (G4.get 1 rfl).one
  have kz0 := (G4.get 1 rfl).lt
  obtain ⟨k1_0, k1_1, kf1, kg1⟩ := (G4.get 0 rfl).two
  have kz1 := (G4.get 0 rfl).lt
  have F4 : Hid (Fr w _ [(w.heap.size + 1, 51, #[.int .i64 p, .int .i64 len]), (w.heap.size, 49, #[.slice gt.A ls.length gt.c])]) := Lib.hid G4
  clear hb4 G4 F3
  go_upto_region 6 with fail
  go_cut [7, 8] from 24 to 30 (fun r s W => r = .slice none 0 0 ∧ s = .int .i64 er ∧ Fr w W [(w.heap.size + 1, 51, #[.int .i64 p, .int .i64 len]), (w.heap.size, 49, #[.slice gt.A ls.length gt.c])])
  case first =>
    have HALL : Hid (∀ W, Fr w W [(w.heap.size + 1, 51, #[.int .i64 p, .int .i64 len]), (w.heap.size, 49, #[.slice gt.A ls.length gt.c])] → Fr w W [(w.heap.size + 1, 51, #[.int .i64 p, .int .i64 len]), (w.heap.size, 49, #[.slice gt.A ls.length gt.c])] ∧ W.cell? ⟨w.heap.size, 0, none⟩ = some (.slice gt.A ls.length gt.c) ∧ W.cell? ⟨w.heap.size + 1, 0, none⟩ = some (.int .i64 p) ∧ W.cell? ⟨w.heap.size + 1, 1, none⟩ = some (.int .i64 len)) := Lib.hid (fun W hW => ⟨hW, hW.at1.cell 0, hW.top.cell 0, hW.top.cell 1⟩)
    have F10 : Fr w _ [(w.heap.size + 1, 51, #[.int .i64 p, .int .i64 len]), (w.heap.size, 49, #[.slice gt.A ls.length gt.c])] := F4.out
    clear F4
    go_region_held3 (fun W => Fr w W [(w.heap.size + 1, 51, #[.int .i64 p, .int .i64 len]), (w.heap.size, 49, #[.slice gt.A ls.length gt.c])] ∧ W.cell? ⟨w.heap.size, 0, none⟩ = some (.slice gt.A ls.length gt.c) ∧ W.cell? ⟨w.heap.size + 1, 0, none⟩ = some (.int .i64 p) ∧ W.cell? ⟨w.heap.size + 1, 1, none⟩ = some (.int .i64 len))
      ((go_split_ands; refine HALL.out _ ?_; (first | assumption | (repeat (first | assumption | refine Fr.new ?_ _ | refine Fr.drew ?_ | (refine Fr.set ?_ (by first | exact Nat.le_refl _ | omega | (simp; done) | (simp; omega)) (by first | (simp; done) | (simp; omega)) _))); done)))
      ((first
        | (go_at_call 30; go_split_ands; (with_reducible refine (CopyTrack_any ls gt (by omega) HG.out _ (Fr.lies HA.out (by assumption))).mono ?_); rintro e w1 ⟨g2, rfl, hl2, hk2, hb1⟩; have HL2 := Lib.hid hl2; have F4 := Fr.call (by assumption) hb1; clear hb1 hl2 hk2)
        | (go_at_call 31; go_split_ands; (with_reducible refine (Overlaps_bad ls _ _ (by unfold maxLen; omega) p len er HPE.out HR2.out _ HL2.out).mono ?_); rintro e w1 ⟨rfl, hb1⟩; have F5 := Fr.call (by assumption) hb1; clear hb1)
        | fail "arm"))
    all_goals
      go_split_ands
      go_wp2_with fail
      go_meet
      exact ⟨rfl, rfl, by assumption⟩
  case rest =>
    obtain ⟨wx, rfl⟩ : ∃ W, W = wc := ⟨_, rfl⟩
    obtain ⟨rfl, rfl, hx⟩ := hcut
    have FC : Hid (Fr w _ [(w.heap.size + 1, 51, #[.int .i64 p, .int .i64 len]), (w.heap.size, 49, #[.slice gt.A ls.length gt.c])]) := Lib.hid hx
    clear k0_0 kf0 kz0 k1_0 k1_1 kf1 kg1 kz1 hx F4
    obtain ⟨k0_0, kf0⟩ := (FC.out.get 1 rfl).one
    have kz0 := (FC.out.get 1 rfl).lt
    obtain ⟨k1_0, k1_1, kf1, kg1⟩ := (FC.out.get 0 rfl).two
    have kz1 := (FC.out.get 0 rfl).lt
    go_wp2_with fail
    refine (refCheckTrack_any ls gt.A gt.c (by omega) _ (Fr.lies HA.out FC.out)).mono ?_
    rintro e w5 ⟨rfl, hb5⟩
    rw [HT.out]
    clear k0_0 kf0 kz0 k1_0 k1_1 kf1 kg1 kz1
    have G5 := Fr.call FC.out hb5
    obtain ⟨k0_0, kf0⟩ := (G5.get 1 rfl).one
    have kz0 := (G5.get 1 rfl).lt
    obtain ⟨k1_0, k1_1, kf1, kg1⟩ := (G5.get 0 rfl).two
    have kz1 := (G5.get 0 rfl).lt
    have F5 : Hid (Fr w _ [(w.heap.size + 1, 51, #[.int .i64 p, .int .i64 len]), (w.heap.size, 49, #[.slice gt.A ls.length gt.c])]) := Lib.hid G5
    clear hb5 G5 FC
    go_wp2_with fail
    go_ret
    exact ⟨rfl, F5.out.bl⟩

set_option maxHeartbeats 4000000 in
set_option maxRecDepth 100000 in
theorem tracks_train (ls : List Int) (gt : Hd) (hg : HdOk gt) (p len : Int) (hl : ls.length ≤ 14) (ht : trkE ls = (0, 0)) (h1 : ls.length ≤ 12) (hx : ∀ x ∈ ls, inB x 1 1000000 = true) (er : Int) (he : trnE ls p len = er) (hr : er ≠ 0) (w : World) (hT : Tab w) (hA : Lies w w.heap.size gt.A (ic ls)) : Calls Tryd.prog 5 #[.agg #[.slice gt.A ls.length gt.c], .agg #[.int .i64 p, .int .i64 len]] w fun e w' => e = .returned (.bool true) ∧ Below w.heap.size w w' := by
  have F0 := Lib.hid (Fr.b2 w 49 #[.slice gt.A ls.length gt.c] 51 #[.int .i64 p, .int .i64 len])
  have T0 := Lib.hid ((hT.new (.cells #[.slice gt.A ls.length gt.c] 49)).new (.cells #[.int .i64 p, .int .i64 len] 51))
  clear hT
  have HA := Lib.hid hA
  have HG := Lib.hid hg
  clear hA hg
  have HS : Hid (decide ((ls.length : Int) ≤ 14) = true) := Lib.hid (by simp; omega)
  have hl14 : ls.length ≤ 14 := hl
  clear hl
  have HT := Lib.hid ht
  have HPE : Hid (plcE ls p len = er) := Lib.hid (by rw [plc_trn (by rw [ht]), he])
  have HTN := Lib.hid he
  have HX := Lib.hid hx
  have HR2 := Lib.hid hr
  have ge : (er == 0) = false := by simp [hr]
  have gn : (er != 0) = true := by simp [hr]
  clear ht hr he hx
  go_enter Tryd.func5, Tryd.ntmps5
  go_wp2_with fail
  refine (awake_any _ T0.out).mono ?_
  rintro e w1 ⟨rfl, hb1⟩
  have G1 := Fr.call F0.out hb1
  obtain ⟨k0_0, kf0⟩ := (G1.get 1 rfl).one
  have kz0 := (G1.get 1 rfl).lt
  obtain ⟨k1_0, k1_1, kf1, kg1⟩ := (G1.get 0 rfl).two
  have kz1 := (G1.get 0 rfl).lt
  have F1 : Hid (Fr w _ [(w.heap.size + 1, 51, #[.int .i64 p, .int .i64 len]), (w.heap.size, 49, #[.slice gt.A ls.length gt.c])]) := Lib.hid G1
  clear hb1 G1 F0
  go_wp2_with fail
  refine (sections_any gt.A ls.length gt.c _).mono ?_
  rintro e w2 ⟨rfl, hb2⟩
  rw [HS.out]
  clear k0_0 kf0 kz0 k1_0 k1_1 kf1 kg1 kz1
  have G2 := Fr.call F1.out hb2
  obtain ⟨k0_0, kf0⟩ := (G2.get 1 rfl).one
  have kz0 := (G2.get 1 rfl).lt
  obtain ⟨k1_0, k1_1, kf1, kg1⟩ := (G2.get 0 rfl).two
  have kz1 := (G2.get 0 rfl).lt
  have F2 : Hid (Fr w _ [(w.heap.size + 1, 51, #[.int .i64 p, .int .i64 len]), (w.heap.size, 49, #[.slice gt.A ls.length gt.c])]) := Lib.hid G2
  clear hb2 G2 F1
  go_wp2_with fail
  refine (CopyTrack_any ls gt (by omega) HG.out _ (Fr.lies HA.out F2.out)).mono ?_
  rintro e w3 ⟨g1, rfl, hl1, hk1, hb3⟩
  clear k0_0 kf0 kz0 k1_0 k1_1 kf1 kg1 kz1
  have G3 := Fr.call F2.out hb3
  have HL1 := Lib.hid hl1
  obtain ⟨k0_0, kf0⟩ := (G3.get 1 rfl).one
  have kz0 := (G3.get 1 rfl).lt
  obtain ⟨k1_0, k1_1, kf1, kg1⟩ := (G3.get 0 rfl).two
  have kz1 := (G3.get 0 rfl).lt
  have F3 : Hid (Fr w _ [(w.heap.size + 1, 51, #[.int .i64 p, .int .i64 len]), (w.heap.size, 49, #[.slice gt.A ls.length gt.c])]) := Lib.hid G3
  clear hb3 G3 F2
  clear hl1 hk1
  go_wp2_with fail
  refine (CheckTrack_any ls g1.A g1.c (by unfold maxLen; omega) _ HL1.out).mono ?_
  rintro e w4 ⟨rfl, hb4⟩
  rw [HT.out]
  clear k0_0 kf0 kz0 k1_0 k1_1 kf1 kg1 kz1
  have G4 := Fr.call F3.out hb4
  obtain ⟨k0_0, kf0⟩ := (G4.get 1 rfl).one
  have kz0 := (G4.get 1 rfl).lt
  obtain ⟨k1_0, k1_1, kf1, kg1⟩ := (G4.get 0 rfl).two
  have kz1 := (G4.get 0 rfl).lt
  have F4 : Hid (Fr w _ [(w.heap.size + 1, 51, #[.int .i64 p, .int .i64 len]), (w.heap.size, 49, #[.slice gt.A ls.length gt.c])]) := Lib.hid G4
  clear hb4 G4 F3
  go_upto_region 6 with fail
  go_cut [7, 8] from 24 to 30 (fun r s W => r = .slice none 0 0 ∧ s = .int .i64 er ∧ Fr w W [(w.heap.size + 1, 51, #[.int .i64 p, .int .i64 len]), (w.heap.size, 49, #[.slice gt.A ls.length gt.c])])
  case first =>
    have HALL : Hid (∀ W, Fr w W [(w.heap.size + 1, 51, #[.int .i64 p, .int .i64 len]), (w.heap.size, 49, #[.slice gt.A ls.length gt.c])] → Fr w W [(w.heap.size + 1, 51, #[.int .i64 p, .int .i64 len]), (w.heap.size, 49, #[.slice gt.A ls.length gt.c])] ∧ W.cell? ⟨w.heap.size, 0, none⟩ = some (.slice gt.A ls.length gt.c) ∧ W.cell? ⟨w.heap.size + 1, 0, none⟩ = some (.int .i64 p) ∧ W.cell? ⟨w.heap.size + 1, 1, none⟩ = some (.int .i64 len)) := Lib.hid (fun W hW => ⟨hW, hW.at1.cell 0, hW.top.cell 0, hW.top.cell 1⟩)
    have F10 : Fr w _ [(w.heap.size + 1, 51, #[.int .i64 p, .int .i64 len]), (w.heap.size, 49, #[.slice gt.A ls.length gt.c])] := F4.out
    clear F4
    go_region_held3 (fun W => Fr w W [(w.heap.size + 1, 51, #[.int .i64 p, .int .i64 len]), (w.heap.size, 49, #[.slice gt.A ls.length gt.c])] ∧ W.cell? ⟨w.heap.size, 0, none⟩ = some (.slice gt.A ls.length gt.c) ∧ W.cell? ⟨w.heap.size + 1, 0, none⟩ = some (.int .i64 p) ∧ W.cell? ⟨w.heap.size + 1, 1, none⟩ = some (.int .i64 len))
      ((go_split_ands; refine HALL.out _ ?_; (first | assumption | (repeat (first | assumption | refine Fr.new ?_ _ | refine Fr.drew ?_ | (refine Fr.set ?_ (by first | exact Nat.le_refl _ | omega | (simp; done) | (simp; omega)) (by first | (simp; done) | (simp; omega)) _))); done)))
      ((first
        | (go_at_call 30; go_split_ands; (with_reducible refine (CopyTrack_any ls gt (by omega) HG.out _ (Fr.lies HA.out (by assumption))).mono ?_); rintro e w1 ⟨g2, rfl, hl2, hk2, hb1⟩; have HL2 := Lib.hid hl2; have F4 := Fr.call (by assumption) hb1; clear hb1 hl2 hk2)
        | (go_at_call 31; go_split_ands; (with_reducible refine (Overlaps_bad ls _ _ (by unfold maxLen; omega) p len er HPE.out HR2.out _ HL2.out).mono ?_); rintro e w1 ⟨rfl, hb1⟩; have F5 := Fr.call (by assumption) hb1; clear hb1)
        | fail "arm"))
    all_goals
      go_split_ands
      go_wp2_with fail
      go_meet
      exact ⟨rfl, rfl, by assumption⟩
  case rest =>
    obtain ⟨wx, rfl⟩ : ∃ W, W = wc := ⟨_, rfl⟩
    obtain ⟨rfl, rfl, hx⟩ := hcut
    have FC : Hid (Fr w _ [(w.heap.size + 1, 51, #[.int .i64 p, .int .i64 len]), (w.heap.size, 49, #[.slice gt.A ls.length gt.c])]) := Lib.hid hx
    clear k0_0 kf0 kz0 k1_0 k1_1 kf1 kg1 kz1 hx F4
    obtain ⟨k0_0, kf0⟩ := (FC.out.get 1 rfl).one
    have kz0 := (FC.out.get 1 rfl).lt
    obtain ⟨k1_0, k1_1, kf1, kg1⟩ := (FC.out.get 0 rfl).two
    have kz1 := (FC.out.get 0 rfl).lt
    go_wp2_with fail
    refine (refCheckTrack_any ls gt.A gt.c (by omega) _ (Fr.lies HA.out FC.out)).mono ?_
    rintro e w5 ⟨rfl, hb5⟩
    rw [HT.out]
    clear k0_0 kf0 kz0 k1_0 k1_1 kf1 kg1 kz1
    have G5 := Fr.call FC.out hb5
    obtain ⟨k0_0, kf0⟩ := (G5.get 1 rfl).one
    have kz0 := (G5.get 1 rfl).lt
    obtain ⟨k1_0, k1_1, kf1, kg1⟩ := (G5.get 0 rfl).two
    have kz1 := (G5.get 0 rfl).lt
    have F5 : Hid (Fr w _ [(w.heap.size + 1, 51, #[.int .i64 p, .int .i64 len]), (w.heap.size, 49, #[.slice gt.A ls.length gt.c])]) := Lib.hid G5
    clear hb5 G5 FC
    go_wp2_with fail
    refine (TrainErr_any ls gt.A gt.c h1 HX.out p len _ (Fr.lies HA.out F5.out)).mono ?_
    rintro e w6 ⟨rfl, hb6⟩
    rw [HTN.out]
    clear k0_0 kf0 kz0 k1_0 k1_1 kf1 kg1 kz1
    have G6 := Fr.call F5.out hb6
    obtain ⟨k0_0, kf0⟩ := (G6.get 1 rfl).one
    have kz0 := (G6.get 1 rfl).lt
    obtain ⟨k1_0, k1_1, kf1, kg1⟩ := (G6.get 0 rfl).two
    have kz1 := (G6.get 0 rfl).lt
    have F6 : Hid (Fr w _ [(w.heap.size + 1, 51, #[.int .i64 p, .int .i64 len]), (w.heap.size, 49, #[.slice gt.A ls.length gt.c])]) := Lib.hid G6
    clear hb6 G6 F5
    go_wp2_with fail
    go_ret
    exact ⟨rfl, F6.out.bl⟩

set_option maxHeartbeats 4000000 in
set_option maxRecDepth 100000 in
theorem tracks_ok (ls : List Int) (gt : Hd) (hg : HdOk gt) (p len : Int) (hl : ls.length ≤ 14) (ht : trkE ls = (0, 0)) (h1 : ls.length ≤ 12) (hx : ∀ x ∈ ls, inB x 1 1000000 = true) (hp : Plc ls p len) (he : trnE ls p len = 0) (w : World) (hT : Tab w) (hA : Lies w w.heap.size gt.A (ic ls)) : Calls Tryd.prog 5 #[.agg #[.slice gt.A ls.length gt.c], .agg #[.int .i64 p, .int .i64 len]] w fun e w' => e = .returned (.bool true) ∧ Below w.heap.size w w' := by
  have F0 := Lib.hid (Fr.b2 w 49 #[.slice gt.A ls.length gt.c] 51 #[.int .i64 p, .int .i64 len])
  have T0 := Lib.hid ((hT.new (.cells #[.slice gt.A ls.length gt.c] 49)).new (.cells #[.int .i64 p, .int .i64 len] 51))
  clear hT
  have HA := Lib.hid hA
  have HG := Lib.hid hg
  clear hA hg
  have HS : Hid (decide ((ls.length : Int) ≤ 14) = true) := Lib.hid (by simp; omega)
  have hl14 : ls.length ≤ 14 := hl
  clear hl
  have HT := Lib.hid ht
  have HP := Lib.hid hp
  have HTN := Lib.hid he
  have HX := Lib.hid hx
  have HSUM := Lib.hid (ov_all hp)
  have HSB : Hid (∀ k : Nat, k ≤ ls.length → 0 ≤ upTo (ovV ls p len) k ∧ upTo (ovV ls p len) k ≤ 1000000) := Lib.hid (fun k hk => by rw [ov_sum hp k hk]; have := hp.p0; have := hp.l0; have := hp.l1; omega)
  have l1 := hp.l1
  have l0 := hp.l0
  clear ht he hx hp
  go_enter Tryd.func5, Tryd.ntmps5
  go_wp2_with fail
  refine (awake_any _ T0.out).mono ?_
  rintro e w1 ⟨rfl, hb1⟩
  have G1 := Fr.call F0.out hb1
  obtain ⟨k0_0, kf0⟩ := (G1.get 1 rfl).one
  have kz0 := (G1.get 1 rfl).lt
  obtain ⟨k1_0, k1_1, kf1, kg1⟩ := (G1.get 0 rfl).two
  have kz1 := (G1.get 0 rfl).lt
  have F1 : Hid (Fr w _ [(w.heap.size + 1, 51, #[.int .i64 p, .int .i64 len]), (w.heap.size, 49, #[.slice gt.A ls.length gt.c])]) := Lib.hid G1
  clear hb1 G1 F0
  go_wp2_with fail
  refine (sections_any gt.A ls.length gt.c _).mono ?_
  rintro e w2 ⟨rfl, hb2⟩
  rw [HS.out]
  clear k0_0 kf0 kz0 k1_0 k1_1 kf1 kg1 kz1
  have G2 := Fr.call F1.out hb2
  obtain ⟨k0_0, kf0⟩ := (G2.get 1 rfl).one
  have kz0 := (G2.get 1 rfl).lt
  obtain ⟨k1_0, k1_1, kf1, kg1⟩ := (G2.get 0 rfl).two
  have kz1 := (G2.get 0 rfl).lt
  have F2 : Hid (Fr w _ [(w.heap.size + 1, 51, #[.int .i64 p, .int .i64 len]), (w.heap.size, 49, #[.slice gt.A ls.length gt.c])]) := Lib.hid G2
  clear hb2 G2 F1
  go_wp2_with fail
  refine (CopyTrack_any ls gt (by omega) HG.out _ (Fr.lies HA.out F2.out)).mono ?_
  rintro e w3 ⟨g1, rfl, hl1, hk1, hb3⟩
  clear k0_0 kf0 kz0 k1_0 k1_1 kf1 kg1 kz1
  have G3 := Fr.call F2.out hb3
  have HL1 := Lib.hid hl1
  obtain ⟨k0_0, kf0⟩ := (G3.get 1 rfl).one
  have kz0 := (G3.get 1 rfl).lt
  obtain ⟨k1_0, k1_1, kf1, kg1⟩ := (G3.get 0 rfl).two
  have kz1 := (G3.get 0 rfl).lt
  have F3 : Hid (Fr w _ [(w.heap.size + 1, 51, #[.int .i64 p, .int .i64 len]), (w.heap.size, 49, #[.slice gt.A ls.length gt.c])]) := Lib.hid G3
  clear hb3 G3 F2
  clear hl1 hk1
  go_wp2_with fail
  refine (CheckTrack_any ls g1.A g1.c (by unfold maxLen; omega) _ HL1.out).mono ?_
  rintro e w4 ⟨rfl, hb4⟩
  rw [HT.out]
  clear k0_0 kf0 kz0 k1_0 k1_1 kf1 kg1 kz1
  have G4 := Fr.call F3.out hb4
  obtain ⟨k0_0, kf0⟩ := (G4.get 1 rfl).one
  have kz0 := (G4.get 1 rfl).lt
  obtain ⟨k1_0, k1_1, kf1, kg1⟩ := (G4.get 0 rfl).two
  have kz1 := (G4.get 0 rfl).lt
  have F4 : Hid (Fr w _ [(w.heap.size + 1, 51, #[.int .i64 p, .int .i64 len]), (w.heap.size, 49, #[.slice gt.A ls.length gt.c])]) := Lib.hid G4
  clear hb4 G4 F3
  go_upto_region 6 with fail
  go_cut [7, 8] from 24 to 30 (fun r s W => (∃ g : Hd, r = .slice g.A ls.length g.c ∧ s = .int .i64 0 ∧ Lies W W.heap.size g.A (ic (ovL ls p len))) ∧ Fr w W [(w.heap.size + 1, 51, #[.int .i64 p, .int .i64 len]), (w.heap.size, 49, #[.slice gt.A ls.length gt.c])])
  case first =>
    have HALL : Hid (∀ W, Fr w W [(w.heap.size + 1, 51, #[.int .i64 p, .int .i64 len]), (w.heap.size, 49, #[.slice gt.A ls.length gt.c])] → Fr w W [(w.heap.size + 1, 51, #[.int .i64 p, .int .i64 len]), (w.heap.size, 49, #[.slice gt.A ls.length gt.c])] ∧ W.cell? ⟨w.heap.size, 0, none⟩ = some (.slice gt.A ls.length gt.c) ∧ W.cell? ⟨w.heap.size + 1, 0, none⟩ = some (.int .i64 p) ∧ W.cell? ⟨w.heap.size + 1, 1, none⟩ = some (.int .i64 len)) := Lib.hid (fun W hW => ⟨hW, hW.at1.cell 0, hW.top.cell 0, hW.top.cell 1⟩)
    have F10 : Fr w _ [(w.heap.size + 1, 51, #[.int .i64 p, .int .i64 len]), (w.heap.size, 49, #[.slice gt.A ls.length gt.c])] := F4.out
    clear F4
    go_region_held3 (fun W => Fr w W [(w.heap.size + 1, 51, #[.int .i64 p, .int .i64 len]), (w.heap.size, 49, #[.slice gt.A ls.length gt.c])] ∧ W.cell? ⟨w.heap.size, 0, none⟩ = some (.slice gt.A ls.length gt.c) ∧ W.cell? ⟨w.heap.size + 1, 0, none⟩ = some (.int .i64 p) ∧ W.cell? ⟨w.heap.size + 1, 1, none⟩ = some (.int .i64 len))
      ((go_split_ands; refine HALL.out _ ?_; (first | assumption | (repeat (first | assumption | refine Fr.new ?_ _ | refine Fr.drew ?_ | (refine Fr.set ?_ (by first | exact Nat.le_refl _ | omega | (simp; done) | (simp; omega)) (by first | (simp; done) | (simp; omega)) _))); done)))
      ((first
        | (go_at_call 30; go_split_ands; (with_reducible refine (CopyTrack_any ls gt (by omega) HG.out _ (Fr.lies HA.out (by assumption))).mono ?_); rintro e w1 ⟨g2, rfl, hl2, hk2, hb1⟩; have HL2 := Lib.hid hl2; have F4 := Fr.call (by assumption) hb1; clear hb1 hl2 hk2)
        | (go_at_call 31; go_split_ands; (with_reducible refine (Overlaps_ok ls _ _ p len HP.out _ HL2.out).mono ?_); rintro e w1 ⟨g3, rfl, hl3, hb1⟩; have HL3 := Lib.hid hl3; have F5 := Fr.call (by assumption) hb1; clear hb1 hl3)
        | fail "arm"))
    all_goals
      go_split_ands
      go_wp2_with fail
      go_meet
      exact ⟨⟨g3, rfl, rfl, HL3.out⟩, by assumption⟩
  case rest =>
    obtain ⟨wx, rfl⟩ : ∃ W, W = wc := ⟨_, rfl⟩
    obtain ⟨⟨g4, rfl, rfl, hl4⟩, hx⟩ := hcut
    have FC : Hid (Fr w _ [(w.heap.size + 1, 51, #[.int .i64 p, .int .i64 len]), (w.heap.size, 49, #[.slice gt.A ls.length gt.c])]) := Lib.hid hx
    clear k0_0 kf0 kz0 k1_0 k1_1 kf1 kg1 kz1 hx F4
    obtain ⟨k0_0, kf0⟩ := (FC.out.get 1 rfl).one
    have kz0 := (FC.out.get 1 rfl).lt
    obtain ⟨k1_0, k1_1, kf1, kg1⟩ := (FC.out.get 0 rfl).two
    have kz1 := (FC.out.get 0 rfl).lt
    have HL4 := Lib.hid hl4
    clear hl4
    go_wp2_with fail
    refine (refCheckTrack_any ls gt.A gt.c (by omega) _ (Fr.lies HA.out FC.out)).mono ?_
    rintro e w5 ⟨rfl, hb5⟩
    rw [HT.out]
    clear k0_0 kf0 kz0 k1_0 k1_1 kf1 kg1 kz1
    have G5 := Fr.call FC.out hb5
    have HL4 := Lib.hid (Lies.call HL4.out hb5)
    obtain ⟨k0_0, kf0⟩ := (G5.get 1 rfl).one
    have kz0 := (G5.get 1 rfl).lt
    obtain ⟨k1_0, k1_1, kf1, kg1⟩ := (G5.get 0 rfl).two
    have kz1 := (G5.get 0 rfl).lt
    have F5 : Hid (Fr w _ [(w.heap.size + 1, 51, #[.int .i64 p, .int .i64 len]), (w.heap.size, 49, #[.slice gt.A ls.length gt.c])]) := Lib.hid G5
    clear hb5 G5 FC
    go_wp2_with fail
    refine (TrainErr_any ls gt.A gt.c h1 HX.out p len _ (Fr.lies HA.out F5.out)).mono ?_
    rintro e w6 ⟨rfl, hb6⟩
    rw [HTN.out]
    clear k0_0 kf0 kz0 k1_0 k1_1 kf1 kg1 kz1
    have G6 := Fr.call F5.out hb6
    have HL4 := Lib.hid (Lies.call HL4.out hb6)
    obtain ⟨k0_0, kf0⟩ := (G6.get 1 rfl).one
    have kz0 := (G6.get 1 rfl).lt
    obtain ⟨k1_0, k1_1, kf1, kg1⟩ := (G6.get 0 rfl).two
    have kz1 := (G6.get 0 rfl).lt
    have F6 : Hid (Fr w _ [(w.heap.size + 1, 51, #[.int .i64 p, .int .i64 len]), (w.heap.size, 49, #[.slice gt.A ls.length gt.c])]) := Lib.hid G6
    clear hb6 G6 F5
    go_wp2_with fail
    refine (refOverlaps_any ls gt.A gt.c p len HP.out _ (Fr.lies HA.out F6.out)).mono ?_
    rintro e w7 ⟨g5, rfl, hl5, hb7⟩
    clear k0_0 kf0 kz0 k1_0 k1_1 kf1 kg1 kz1
    have G7 := Fr.call F6.out hb7
    have HL4 := Lib.hid (Lies.call HL4.out hb7)
    have HL5 := Lib.hid hl5
    clear hl5
    obtain ⟨k0_0, kf0⟩ := (G7.get 1 rfl).one
    have kz0 := (G7.get 1 rfl).lt
    obtain ⟨k1_0, k1_1, kf1, kg1⟩ := (G7.get 0 rfl).two
    have kz1 := (G7.get 0 rfl).lt
    have F7 : Hid (Fr w _ [(w.heap.size + 1, 51, #[.int .i64 p, .int .i64 len]), (w.heap.size, 49, #[.slice gt.A ls.length gt.c])]) := Lib.hid G7
    clear hb7 G7 F6
    go_wp2_with fail
    refine (Ints_ov ls p len (by omega) g4.A g5.A g4.c g5.c _ HL4.out HL5.out).mono ?_
    rintro e w8 ⟨rfl, hb8⟩
    clear k0_0 kf0 kz0 k1_0 k1_1 kf1 kg1 kz1
    have G8 := Fr.call F7.out hb8
    have HL4 := Lib.hid (Lies.call HL4.out hb8)
    obtain ⟨k0_0, kf0⟩ := (G8.get 1 rfl).one
    have kz0 := (G8.get 1 rfl).lt
    obtain ⟨k1_0, k1_1, kf1, kg1⟩ := (G8.get 0 rfl).two
    have kz1 := (G8.get 0 rfl).lt
    have F8 : Hid (Fr w _ [(w.heap.size + 1, 51, #[.int .i64 p, .int .i64 len]), (w.heap.size, 49, #[.slice gt.A ls.length gt.c])]) := Lib.hid G8
    clear hb8 G8 F7
    have hl12 : (ls.length : Int) ≤ 12 := by omega
    go_wp2_with fail
    go_loop [11, 12] (fun s i => ∃ k : Nat, k ≤ ls.length ∧ i = .int .i64 k ∧ s = .int .i64 (upTo (ovV ls p len) k)) (fun _ i => ls.length - (intOf i).toNat)
    case atStart => exact ⟨0, Nat.zero_le _, rfl, rfl⟩
    case round =>
      obtain ⟨k, hk, rfl, rfl⟩ := hrel
      obtain ⟨b0, b1⟩ := HSB.out k hk
      by_cases hlt : k < ls.length
      · obtain ⟨a, ea, _, ca⟩ := HL4.out.num (ovL_at ls p len k hlt)
        obtain ⟨A4, c4⟩ := g4
        simp only at ea
        subst ea
        obtain ⟨o0, o1⟩ := ovV_bound ls p len k (by omega)
        go_wp2_with fail
        go_round
        case rel => exact ⟨k + 1, by omega, by go_num, rfl⟩
        case measure => simp [intOf]; omega
      · obtain rfl : k = ls.length := by omega
        have hsum := HSUM.out
        go_wp2_with fail
        go_ret
        exact ⟨by first | rfl | (rw [hsum]; simp) | (simp [hsum]), F8.out.bl⟩

set_option maxHeartbeats 4000000 in
set_option maxRecDepth 100000 in
theorem StatorTracks_any (ls : List Int) (gt : Hd) (hg : HdOk gt) (hm : ls.length ≤ maxLen) (_ho : ∀ y ∈ ls, I64 y) (p len : Int) (_ip : I64 p) (_il : I64 len) (w : World) (hT : Tab w) (hA : Lies w w.heap.size gt.A (ic ls)) : Calls Tryd.prog 5 #[.agg #[.slice gt.A ls.length gt.c], .agg #[.int .i64 p, .int .i64 len]] w fun e w' => e = .returned (.bool true) ∧ Below w.heap.size w w' := by
  by_cases hl : ls.length ≤ 14
  · rcases trk_cases ls with ⟨ht, h0, h1, hx⟩ | hr
    · by_cases he : trnE ls p len = 0
      · exact tracks_ok ls gt hg p len hl ht h1 hx (plc_of (by rw [plc_trn (by rw [ht]), he])) he w hT hA
      · exact tracks_train ls gt hg p len hl ht h1 hx _ rfl he w hT hA
    · exact tracks_track ls gt hg p len hl (trkE ls).1 (trkE ls).2 rfl hr w hT hA
  · unfold maxLen at hm
    have F0 := Lib.hid (Fr.b2 w 49 #[.slice gt.A ls.length gt.c] 51 #[.int .i64 p, .int .i64 len])
    have T0 := Lib.hid ((hT.new (.cells #[.slice gt.A ls.length gt.c] 49)).new (.cells #[.int .i64 p, .int .i64 len] 51))
    have HS : Hid (decide ((ls.length : Int) ≤ 14) = false) := Lib.hid (by simp; omega)
    clear hT
    go_enter Tryd.func5, Tryd.ntmps5
    go_wp2_with fail
    refine (awake_any _ T0.out).mono ?_
    rintro e w1 ⟨rfl, hb1⟩
    have F1 := Lib.hid (Fr.call F0.out hb1)
    obtain ⟨c0, c1⟩ := F1.out.at1.one
    clear hb1 F0
    go_wp2_with fail
    refine (sections_any gt.A ls.length gt.c _).mono ?_
    rintro e w2 ⟨rfl, hb2⟩
    rw [HS.out]
    have F2 := Lib.hid (Fr.call F1.out hb2)
    clear hb2 F1 c0 c1
    go_wp2_with fail
    go_ret
    exact ⟨rfl, F2.out.bl⟩
end Go.Proofs.YtemjefhfplaibaaDoor
