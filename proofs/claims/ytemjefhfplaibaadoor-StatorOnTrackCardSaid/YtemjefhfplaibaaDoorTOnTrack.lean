
/-
  The walk of StatorOnTrack.
-/
import Derived.Test.YtemjefhfplaibaaDoorTGs
namespace Go.Proofs.YtemjefhfplaibaaDoor
open Go.RowKit

set_option maxHeartbeats 4000000 in
set_option maxRecDepth 100000 in
theorem ontrack_long (ls : List Int) (gt : Hd) (hg : HdOk gt) (p len : Int) (cs : List T3) (gf : Hd) (hgf : HdOk gf) (fl : T3) (mv : Int) (hl : ¬ ls.length ≤ 14) (hm : ls.length ≤ maxLen) (w : World) (hT : Tab w) (hA : Lies w w.heap.size gt.A (ic ls)) (hC : Lies w w.heap.size gf.A (cs.flatMap tc)) : Calls Tryd.prog 6 #[.agg #[.slice gt.A ls.length gt.c], .agg #[.int .i64 p, .int .i64 len], .agg #[.slice gf.A cs.length gf.c, .int .i64 fl.a, .int .i64 fl.b, .int .i64 mv]] w fun e w' => e = .returned (.bool true) ∧ Below w.heap.size w w' := by
  have F0 := Lib.hid (Fr.b3 w 49 #[.slice gt.A ls.length gt.c] 51 #[.int .i64 p, .int .i64 len] 65 #[.slice gf.A cs.length gf.c, .int .i64 fl.a, .int .i64 fl.b, .int .i64 mv])
  have T0 := Lib.hid (((hT.new (.cells #[.slice gt.A ls.length gt.c] 49)).new (.cells #[.int .i64 p, .int .i64 len] 51)).new (.cells #[.slice gf.A cs.length gf.c, .int .i64 fl.a, .int .i64 fl.b, .int .i64 mv] 65))
  clear hT
  have HA := Lib.hid hA
  have HG := Lib.hid hg
  have HC := Lib.hid hC
  have HGF := Lib.hid hgf
  clear hA hg hC hgf
  have HS : Hid (decide ((ls.length : Int) ≤ 14) = false) := Lib.hid (by simp; omega)
  clear hl hm
  go_enter Tryd.func6, Tryd.ntmps6
  go_wp2_with fail
  refine (awake_any _ T0.out).mono ?_
  rintro e w1 ⟨rfl, hb1⟩
  have G1 := Fr.call F0.out hb1
  obtain ⟨k0_0, kf0⟩ := (G1.get 2 rfl).one
  have kz0 := (G1.get 2 rfl).lt
  obtain ⟨k1_0, k1_1, kf1, kg1⟩ := (G1.get 1 rfl).two
  have kz1 := (G1.get 1 rfl).lt
  obtain ⟨k2_0, k2_1, k2_2, k2_3⟩ := (G1.get 0 rfl).four
  have kz2 := (G1.get 0 rfl).lt
  have F1 : Hid (Fr w _ [(w.heap.size + 1 + 1, 65, #[.slice gf.A cs.length gf.c, .int .i64 fl.a, .int .i64 fl.b, .int .i64 mv]), (w.heap.size + 1, 51, #[.int .i64 p, .int .i64 len]), (w.heap.size, 49, #[.slice gt.A ls.length gt.c])]) := Lib.hid G1
  clear hb1 G1 F0
  go_wp2_with fail
  refine (sections_any gt.A ls.length gt.c _).mono ?_
  rintro e w2 ⟨rfl, hb2⟩
  rw [HS.out]
  clear k0_0 kf0 kz0 k1_0 k1_1 kf1 kg1 kz1 k2_0 k2_1 k2_2 k2_3 kz2
  have G2 := Fr.call F1.out hb2
  obtain ⟨k0_0, kf0⟩ := (G2.get 2 rfl).one
  have kz0 := (G2.get 2 rfl).lt
  obtain ⟨k1_0, k1_1, kf1, kg1⟩ := (G2.get 1 rfl).two
  have kz1 := (G2.get 1 rfl).lt
  obtain ⟨k2_0, k2_1, k2_2, k2_3⟩ := (G2.get 0 rfl).four
  have kz2 := (G2.get 0 rfl).lt
  have F2 : Hid (Fr w _ [(w.heap.size + 1 + 1, 65, #[.slice gf.A cs.length gf.c, .int .i64 fl.a, .int .i64 fl.b, .int .i64 mv]), (w.heap.size + 1, 51, #[.int .i64 p, .int .i64 len]), (w.heap.size, 49, #[.slice gt.A ls.length gt.c])]) := Lib.hid G2
  clear hb2 G2 F1
  go_wp2_with fail
  go_ret
  exact ⟨rfl, F2.out.bl⟩

set_option maxHeartbeats 4000000 in
set_option maxRecDepth 100000 in
theorem ontrack_many (ls : List Int) (gt : Hd) (hg : HdOk gt) (p len : Int) (cs : List T3) (gf : Hd) (hgf : HdOk gf) (fl : T3) (mv : Int) (hl : ls.length ≤ 14) (hl2 : ¬ cs.length ≤ 14) (hm : cs.length ≤ maxLen) (w : World) (hT : Tab w) (hA : Lies w w.heap.size gt.A (ic ls)) (hC : Lies w w.heap.size gf.A (cs.flatMap tc)) : Calls Tryd.prog 6 #[.agg #[.slice gt.A ls.length gt.c], .agg #[.int .i64 p, .int .i64 len], .agg #[.slice gf.A cs.length gf.c, .int .i64 fl.a, .int .i64 fl.b, .int .i64 mv]] w fun e w' => e = .returned (.bool true) ∧ Below w.heap.size w w' := by
  have F0 := Lib.hid (Fr.b3 w 49 #[.slice gt.A ls.length gt.c] 51 #[.int .i64 p, .int .i64 len] 65 #[.slice gf.A cs.length gf.c, .int .i64 fl.a, .int .i64 fl.b, .int .i64 mv])
  have T0 := Lib.hid (((hT.new (.cells #[.slice gt.A ls.length gt.c] 49)).new (.cells #[.int .i64 p, .int .i64 len] 51)).new (.cells #[.slice gf.A cs.length gf.c, .int .i64 fl.a, .int .i64 fl.b, .int .i64 mv] 65))
  clear hT
  have HA := Lib.hid hA
  have HG := Lib.hid hg
  have HC := Lib.hid hC
  have HGF := Lib.hid hgf
  clear hA hg hC hgf
  have HS : Hid (decide ((ls.length : Int) ≤ 14) = true) := Lib.hid (by simp; omega)
  have gl : (14 : Int) < cs.length := by omega
  clear hl hm hl2
  go_enter Tryd.func6, Tryd.ntmps6
  go_wp2_with fail
  refine (awake_any _ T0.out).mono ?_
  rintro e w1 ⟨rfl, hb1⟩
  have G1 := Fr.call F0.out hb1
  obtain ⟨k0_0, kf0⟩ := (G1.get 2 rfl).one
  have kz0 := (G1.get 2 rfl).lt
  obtain ⟨k1_0, k1_1, kf1, kg1⟩ := (G1.get 1 rfl).two
  have kz1 := (G1.get 1 rfl).lt
  obtain ⟨k2_0, k2_1, k2_2, k2_3⟩ := (G1.get 0 rfl).four
  have kz2 := (G1.get 0 rfl).lt
  have F1 : Hid (Fr w _ [(w.heap.size + 1 + 1, 65, #[.slice gf.A cs.length gf.c, .int .i64 fl.a, .int .i64 fl.b, .int .i64 mv]), (w.heap.size + 1, 51, #[.int .i64 p, .int .i64 len]), (w.heap.size, 49, #[.slice gt.A ls.length gt.c])]) := Lib.hid G1
  clear hb1 G1 F0
  go_wp2_with fail
  refine (sections_any gt.A ls.length gt.c _).mono ?_
  rintro e w2 ⟨rfl, hb2⟩
  rw [HS.out]
  clear k0_0 kf0 kz0 k1_0 k1_1 kf1 kg1 kz1 k2_0 k2_1 k2_2 k2_3 kz2
  have G2 := Fr.call F1.out hb2
  obtain ⟨k0_0, kf0⟩ := (G2.get 2 rfl).one
  have kz0 := (G2.get 2 rfl).lt
  obtain ⟨k1_0, k1_1, kf1, kg1⟩ := (G2.get 1 rfl).two
  have kz1 := (G2.get 1 rfl).lt
  obtain ⟨k2_0, k2_1, k2_2, k2_3⟩ := (G2.get 0 rfl).four
  have kz2 := (G2.get 0 rfl).lt
  have F2 : Hid (Fr w _ [(w.heap.size + 1 + 1, 65, #[.slice gf.A cs.length gf.c, .int .i64 fl.a, .int .i64 fl.b, .int .i64 mv]), (w.heap.size + 1, 51, #[.int .i64 p, .int .i64 len]), (w.heap.size, 49, #[.slice gt.A ls.length gt.c])]) := Lib.hid G2
  clear hb2 G2 F1
  go_wp2_with fail
  go_ret
  exact ⟨rfl, F2.out.bl⟩

set_option maxHeartbeats 4000000 in
set_option maxRecDepth 100000 in
theorem ontrack_far (ls : List Int) (gt : Hd) (hg : HdOk gt) (p len : Int) (cs : List T3) (gf : Hd) (hgf : HdOk gf) (fl : T3) (mv : Int) (hl : ls.length ≤ 14) (hl2 : cs.length ≤ 14) (h40 : 40 < mv) (h2k : mv ≤ 2000) (w : World) (hT : Tab w) (hA : Lies w w.heap.size gt.A (ic ls)) (hC : Lies w w.heap.size gf.A (cs.flatMap tc)) : Calls Tryd.prog 6 #[.agg #[.slice gt.A ls.length gt.c], .agg #[.int .i64 p, .int .i64 len], .agg #[.slice gf.A cs.length gf.c, .int .i64 fl.a, .int .i64 fl.b, .int .i64 mv]] w fun e w' => e = .returned (.bool true) ∧ Below w.heap.size w w' := by
  have F0 := Lib.hid (Fr.b3 w 49 #[.slice gt.A ls.length gt.c] 51 #[.int .i64 p, .int .i64 len] 65 #[.slice gf.A cs.length gf.c, .int .i64 fl.a, .int .i64 fl.b, .int .i64 mv])
  have T0 := Lib.hid (((hT.new (.cells #[.slice gt.A ls.length gt.c] 49)).new (.cells #[.int .i64 p, .int .i64 len] 51)).new (.cells #[.slice gf.A cs.length gf.c, .int .i64 fl.a, .int .i64 fl.b, .int .i64 mv] 65))
  clear hT
  have HA := Lib.hid hA
  have HG := Lib.hid hg
  have HC := Lib.hid hC
  have HGF := Lib.hid hgf
  clear hA hg hC hgf
  have HS : Hid (decide ((ls.length : Int) ≤ 14) = true) := Lib.hid (by simp; omega)
  have gl : ¬ (14 : Int) < cs.length := by omega
  clear hl hl2
  go_enter Tryd.func6, Tryd.ntmps6
  go_wp2_with fail
  refine (awake_any _ T0.out).mono ?_
  rintro e w1 ⟨rfl, hb1⟩
  have G1 := Fr.call F0.out hb1
  obtain ⟨k0_0, kf0⟩ := (G1.get 2 rfl).one
  have kz0 := (G1.get 2 rfl).lt
  obtain ⟨k1_0, k1_1, kf1, kg1⟩ := (G1.get 1 rfl).two
  have kz1 := (G1.get 1 rfl).lt
  obtain ⟨k2_0, k2_1, k2_2, k2_3⟩ := (G1.get 0 rfl).four
  have kz2 := (G1.get 0 rfl).lt
  have F1 : Hid (Fr w _ [(w.heap.size + 1 + 1, 65, #[.slice gf.A cs.length gf.c, .int .i64 fl.a, .int .i64 fl.b, .int .i64 mv]), (w.heap.size + 1, 51, #[.int .i64 p, .int .i64 len]), (w.heap.size, 49, #[.slice gt.A ls.length gt.c])]) := Lib.hid G1
  clear hb1 G1 F0
  go_wp2_with fail
  refine (sections_any gt.A ls.length gt.c _).mono ?_
  rintro e w2 ⟨rfl, hb2⟩
  rw [HS.out]
  clear k0_0 kf0 kz0 k1_0 k1_1 kf1 kg1 kz1 k2_0 k2_1 k2_2 k2_3 kz2
  have G2 := Fr.call F1.out hb2
  obtain ⟨k0_0, kf0⟩ := (G2.get 2 rfl).one
  have kz0 := (G2.get 2 rfl).lt
  obtain ⟨k1_0, k1_1, kf1, kg1⟩ := (G2.get 1 rfl).two
  have kz1 := (G2.get 1 rfl).lt
  obtain ⟨k2_0, k2_1, k2_2, k2_3⟩ := (G2.get 0 rfl).four
  have kz2 := (G2.get 0 rfl).lt
  have F2 : Hid (Fr w _ [(w.heap.size + 1 + 1, 65, #[.slice gf.A cs.length gf.c, .int .i64 fl.a, .int .i64 fl.b, .int .i64 mv]), (w.heap.size + 1, 51, #[.int .i64 p, .int .i64 len]), (w.heap.size, 49, #[.slice gt.A ls.length gt.c])]) := Lib.hid G2
  clear hb2 G2 F1
  go_wp2_with fail
  go_ret
  exact ⟨rfl, F2.out.bl⟩

set_option maxHeartbeats 4000000 in
set_option maxRecDepth 100000 in
theorem ontrack_track (ls : List Int) (gt : Hd) (hg : HdOk gt) (p len : Int) (cs : List T3) (gf : Hd) (hgf : HdOk gf) (fl : T3) (mv : Int) (hl : ls.length ≤ 14) (hl2 : cs.length ≤ 14) (hmv : mv ≤ 40 ∨ 2000 < mv) (er : Int) (ht : (trkE ls).2 = er) (hr : er ≠ 0) (w : World) (hT : Tab w) (hA : Lies w w.heap.size gt.A (ic ls)) (hC : Lies w w.heap.size gf.A (cs.flatMap tc)) : Calls Tryd.prog 6 #[.agg #[.slice gt.A ls.length gt.c], .agg #[.int .i64 p, .int .i64 len], .agg #[.slice gf.A cs.length gf.c, .int .i64 fl.a, .int .i64 fl.b, .int .i64 mv]] w fun e w' => e = .returned (.bool true) ∧ Below w.heap.size w w' := by
  have F0 := Lib.hid (Fr.b3 w 49 #[.slice gt.A ls.length gt.c] 51 #[.int .i64 p, .int .i64 len] 65 #[.slice gf.A cs.length gf.c, .int .i64 fl.a, .int .i64 fl.b, .int .i64 mv])
  have T0 := Lib.hid (((hT.new (.cells #[.slice gt.A ls.length gt.c] 49)).new (.cells #[.int .i64 p, .int .i64 len] 51)).new (.cells #[.slice gf.A cs.length gf.c, .int .i64 fl.a, .int .i64 fl.b, .int .i64 mv] 65))
  clear hT
  have HA := Lib.hid hA
  have HG := Lib.hid hg
  have HC := Lib.hid hC
  have HGF := Lib.hid hgf
  clear hA hg hC hgf
  have HS : Hid (decide ((ls.length : Int) ≤ 14) = true) := Lib.hid (by simp; omega)
  have hcl : (cs.length : Int) ≤ 14 := by omega
  have he : fedE ls p len cs fl = er := by rw [fed_plc (by rw [plc_trk (by rw [ht]; exact hr), ht]; exact hr), plc_trk (by rw [ht]; exact hr), ht]
  have HFO : Hid (∀ (w : World) (A : Option Addr) (c : Nat) (C : Option Addr) (d : Nat), Lies w w.heap.size A (ic ls) → Lies w w.heap.size C (cs.flatMap tc) → Calls Tryd.prog 36 #[.agg #[.slice A ls.length c], .agg #[.int .i64 p, .int .i64 len], .agg #[.slice C cs.length d, .int .i64 fl.a, .int .i64 fl.b, .int .i64 mv]] w fun e w' => e = .returned (.tuple #[.int .i64 0, .int .i64 er]) ∧ Below w.heap.size w w') := Lib.hid (fun w A c C d h1 h2 => ForceAt_bad ls A c p len cs C d fl mv (by unfold maxLen; omega) (by omega) er he hr w h1 h2)
  have HGO : Hid (∀ (w : World) (A : Option Addr) (c : Nat) (C : Option Addr) (d : Nat), Lies w w.heap.size A (ic ls) → Lies w w.heap.size C (cs.flatMap tc) → Calls Tryd.prog 38 #[.agg #[.slice A ls.length c], .agg #[.int .i64 p, .int .i64 len], .agg #[.slice C cs.length d, .int .i64 fl.a, .int .i64 fl.b, .int .i64 mv]] w fun e w' => e = .returned (.tuple #[.int .i64 0, .int .i64 er]) ∧ Below w.heap.size w w') := Lib.hid (fun w A c C d h1 h2 => GreatestStep_fed ls A c p len cs C d fl mv (by unfold maxLen; omega) (by omega) er he hr w h1 h2)
  have HT := Lib.hid ht
  have ge : (er == 0) = false := by simp [hr]
  have gn : (er != 0) = true := by simp [hr]
  clear ht hr he
  go_enter Tryd.func6, Tryd.ntmps6
  go_wp2_with fail
  refine (awake_any _ T0.out).mono ?_
  rintro e w1 ⟨rfl, hb1⟩
  have G1 := Fr.call F0.out hb1
  obtain ⟨k0_0, kf0⟩ := (G1.get 2 rfl).one
  have kz0 := (G1.get 2 rfl).lt
  obtain ⟨k1_0, k1_1, kf1, kg1⟩ := (G1.get 1 rfl).two
  have kz1 := (G1.get 1 rfl).lt
  obtain ⟨k2_0, k2_1, k2_2, k2_3⟩ := (G1.get 0 rfl).four
  have kz2 := (G1.get 0 rfl).lt
  have F1 : Hid (Fr w _ [(w.heap.size + 1 + 1, 65, #[.slice gf.A cs.length gf.c, .int .i64 fl.a, .int .i64 fl.b, .int .i64 mv]), (w.heap.size + 1, 51, #[.int .i64 p, .int .i64 len]), (w.heap.size, 49, #[.slice gt.A ls.length gt.c])]) := Lib.hid G1
  clear hb1 G1 F0
  go_upto_region 3 with fail
  go_cut [32] from 14 to 32 (fun r W => r = .bool false ∧ Fr w W [(w.heap.size + 1 + 1, 65, #[.slice gf.A cs.length gf.c, .int .i64 fl.a, .int .i64 fl.b, .int .i64 mv]), (w.heap.size + 1, 51, #[.int .i64 p, .int .i64 len]), (w.heap.size, 49, #[.slice gt.A ls.length gt.c])])
  case first =>
    clear HFO HGO
    rcases hmv with hmv | hmv
    all_goals
      go_wp2_with fail
      refine (sections_any gt.A ls.length gt.c _).mono ?_
      rintro e w9 ⟨rfl, hb9⟩
      rw [HS.out]
      have G9 := Fr.call F1.out hb9
      clear hb9
      obtain ⟨x0, x1, x2, x3⟩ := G9.top.four
      have hz9 := G9.top.lt
      go_wp2_with fail
      go_meet
      exact ⟨by first | rfl | exact congrArg Value.bool (by simp only [Bool.or_eq_false_iff, decide_eq_false_iff_not]; omega), G9⟩
  case rest =>
    obtain ⟨wx, rfl⟩ : ∃ W, W = wc := ⟨_, rfl⟩
    obtain ⟨rfl, hx⟩ := hcut
    have FC3 : Hid (Fr w _ [(w.heap.size + 1 + 1, 65, #[.slice gf.A cs.length gf.c, .int .i64 fl.a, .int .i64 fl.b, .int .i64 mv]), (w.heap.size + 1, 51, #[.int .i64 p, .int .i64 len]), (w.heap.size, 49, #[.slice gt.A ls.length gt.c])]) := Lib.hid hx
    clear k0_0 kf0 kz0 k1_0 k1_1 kf1 kg1 kz1 k2_0 k2_1 k2_2 k2_3 kz2 hx F1
    obtain ⟨k0_0, kf0⟩ := (FC3.out.get 2 rfl).one
    have kz0 := (FC3.out.get 2 rfl).lt
    obtain ⟨k1_0, k1_1, kf1, kg1⟩ := (FC3.out.get 1 rfl).two
    have kz1 := (FC3.out.get 1 rfl).lt
    obtain ⟨k2_0, k2_1, k2_2, k2_3⟩ := (FC3.out.get 0 rfl).four
    have kz2 := (FC3.out.get 0 rfl).lt
    go_upto_region 5 with fail
    go_cut [7, 8] from 33 to 41 (fun r s W => r = .int .i64 0 ∧ s = .int .i64 er ∧ Fr w W [(w.heap.size + 1 + 1, 65, #[.slice gf.A cs.length gf.c, .int .i64 fl.a, .int .i64 fl.b, .int .i64 mv]), (w.heap.size + 1, 51, #[.int .i64 p, .int .i64 len]), (w.heap.size, 49, #[.slice gt.A ls.length gt.c])])
    case first =>
      have HALL : Hid (∀ W, Fr w W [(w.heap.size + 1 + 1, 65, #[.slice gf.A cs.length gf.c, .int .i64 fl.a, .int .i64 fl.b, .int .i64 mv]), (w.heap.size + 1, 51, #[.int .i64 p, .int .i64 len]), (w.heap.size, 49, #[.slice gt.A ls.length gt.c])] → Fr w W [(w.heap.size + 1 + 1, 65, #[.slice gf.A cs.length gf.c, .int .i64 fl.a, .int .i64 fl.b, .int .i64 mv]), (w.heap.size + 1, 51, #[.int .i64 p, .int .i64 len]), (w.heap.size, 49, #[.slice gt.A ls.length gt.c])] ∧ W.cell? ⟨w.heap.size, 0, none⟩ = some (.slice gt.A ls.length gt.c) ∧ W.cell? ⟨w.heap.size + 1, 0, none⟩ = some (.int .i64 p) ∧ W.cell? ⟨w.heap.size + 1, 1, none⟩ = some (.int .i64 len) ∧ W.cell? ⟨w.heap.size + 1 + 1, 0, none⟩ = some (.slice gf.A cs.length gf.c) ∧ W.cell? ⟨w.heap.size + 1 + 1, 1, none⟩ = some (.int .i64 fl.a) ∧ W.cell? ⟨w.heap.size + 1 + 1, 2, none⟩ = some (.int .i64 fl.b) ∧ W.cell? ⟨w.heap.size + 1 + 1, 3, none⟩ = some (.int .i64 mv)) := Lib.hid (fun W hW => ⟨hW, hW.at2.cell 0, hW.at1.cell 0, hW.at1.cell 1, hW.top.cell 0, hW.top.cell 1, hW.top.cell 2, hW.top.cell 3⟩)
      have F10 : Fr w _ [(w.heap.size + 1 + 1, 65, #[.slice gf.A cs.length gf.c, .int .i64 fl.a, .int .i64 fl.b, .int .i64 mv]), (w.heap.size + 1, 51, #[.int .i64 p, .int .i64 len]), (w.heap.size, 49, #[.slice gt.A ls.length gt.c])] := FC3.out
      clear FC3
      go_region_held3 (fun W => Fr w W [(w.heap.size + 1 + 1, 65, #[.slice gf.A cs.length gf.c, .int .i64 fl.a, .int .i64 fl.b, .int .i64 mv]), (w.heap.size + 1, 51, #[.int .i64 p, .int .i64 len]), (w.heap.size, 49, #[.slice gt.A ls.length gt.c])] ∧ W.cell? ⟨w.heap.size, 0, none⟩ = some (.slice gt.A ls.length gt.c) ∧ W.cell? ⟨w.heap.size + 1, 0, none⟩ = some (.int .i64 p) ∧ W.cell? ⟨w.heap.size + 1, 1, none⟩ = some (.int .i64 len) ∧ W.cell? ⟨w.heap.size + 1 + 1, 0, none⟩ = some (.slice gf.A cs.length gf.c) ∧ W.cell? ⟨w.heap.size + 1 + 1, 1, none⟩ = some (.int .i64 fl.a) ∧ W.cell? ⟨w.heap.size + 1 + 1, 2, none⟩ = some (.int .i64 fl.b) ∧ W.cell? ⟨w.heap.size + 1 + 1, 3, none⟩ = some (.int .i64 mv))
        ((go_split_ands; refine HALL.out _ ?_; (first | assumption | (repeat (first | assumption | refine Fr.new ?_ _ | refine Fr.drew ?_ | (refine Fr.set ?_ (by first | exact Nat.le_refl _ | omega | (simp; done) | (simp; omega)) (by first | (simp; done) | (simp; omega)) _))); done)))
        ((first
          | (go_at_call 30; go_split_ands; (with_reducible refine (CopyTrack_any ls gt (by omega) HG.out _ (Fr.lies HA.out (by assumption))).mono ?_); rintro e w1 ⟨g2, rfl, hl2, hk2, hb1⟩; have HL1 := Lib.hid hl2; (first | (have HL2 := Lib.hid (Lies.call HL2.out hb1)) | skip); have F4 := Fr.call (by assumption) hb1; clear hb1 hl2 hk2)
          | (go_at_call 37; go_split_ands; (with_reducible refine (CopyFeed_any cs gf fl mv (by omega) HGF.out _ (Fr.lies HC.out (by assumption))).mono ?_); rintro e w1 ⟨g2, rfl, hl2, hk2, hb1⟩; have HL2 := Lib.hid hl2; (first | (have HL1 := Lib.hid (Lies.call HL1.out hb1)) | skip); have F4 := Fr.call (by assumption) hb1; clear hb1 hl2 hk2)
          | (go_at_call 36; go_split_ands; (with_reducible refine (HFO.out _ _ _ _ _ HL1.out HL2.out).mono ?_); rintro e w1 ⟨rfl, hb1⟩; have F5 := Fr.call (by assumption) hb1; clear hb1)
          | fail "arm"))
      all_goals
        go_split_ands
        go_wp2_with fail
        go_meet
        exact ⟨rfl, rfl, by assumption⟩
    case rest =>
      obtain ⟨wx, rfl⟩ : ∃ W, W = wc := ⟨_, rfl⟩
      obtain ⟨rfl, rfl, hx⟩ := hcut
      have FC5 : Hid (Fr w _ [(w.heap.size + 1 + 1, 65, #[.slice gf.A cs.length gf.c, .int .i64 fl.a, .int .i64 fl.b, .int .i64 mv]), (w.heap.size + 1, 51, #[.int .i64 p, .int .i64 len]), (w.heap.size, 49, #[.slice gt.A ls.length gt.c])]) := Lib.hid hx
      clear k0_0 kf0 kz0 k1_0 k1_1 kf1 kg1 kz1 k2_0 k2_1 k2_2 k2_3 kz2 hx FC3
      obtain ⟨k0_0, kf0⟩ := (FC5.out.get 2 rfl).one
      have kz0 := (FC5.out.get 2 rfl).lt
      obtain ⟨k1_0, k1_1, kf1, kg1⟩ := (FC5.out.get 1 rfl).two
      have kz1 := (FC5.out.get 1 rfl).lt
      obtain ⟨k2_0, k2_1, k2_2, k2_3⟩ := (FC5.out.get 0 rfl).four
      have kz2 := (FC5.out.get 0 rfl).lt
      go_upto_region 6 with fail
      go_cut [9, 10] from 42 to 50 (fun r s W => r = .int .i64 0 ∧ s = .int .i64 er ∧ Fr w W [(w.heap.size + 1 + 1, 65, #[.slice gf.A cs.length gf.c, .int .i64 fl.a, .int .i64 fl.b, .int .i64 mv]), (w.heap.size + 1, 51, #[.int .i64 p, .int .i64 len]), (w.heap.size, 49, #[.slice gt.A ls.length gt.c])])
      case first =>
        have HALL : Hid (∀ W, Fr w W [(w.heap.size + 1 + 1, 65, #[.slice gf.A cs.length gf.c, .int .i64 fl.a, .int .i64 fl.b, .int .i64 mv]), (w.heap.size + 1, 51, #[.int .i64 p, .int .i64 len]), (w.heap.size, 49, #[.slice gt.A ls.length gt.c])] → Fr w W [(w.heap.size + 1 + 1, 65, #[.slice gf.A cs.length gf.c, .int .i64 fl.a, .int .i64 fl.b, .int .i64 mv]), (w.heap.size + 1, 51, #[.int .i64 p, .int .i64 len]), (w.heap.size, 49, #[.slice gt.A ls.length gt.c])] ∧ W.cell? ⟨w.heap.size, 0, none⟩ = some (.slice gt.A ls.length gt.c) ∧ W.cell? ⟨w.heap.size + 1, 0, none⟩ = some (.int .i64 p) ∧ W.cell? ⟨w.heap.size + 1, 1, none⟩ = some (.int .i64 len) ∧ W.cell? ⟨w.heap.size + 1 + 1, 0, none⟩ = some (.slice gf.A cs.length gf.c) ∧ W.cell? ⟨w.heap.size + 1 + 1, 1, none⟩ = some (.int .i64 fl.a) ∧ W.cell? ⟨w.heap.size + 1 + 1, 2, none⟩ = some (.int .i64 fl.b) ∧ W.cell? ⟨w.heap.size + 1 + 1, 3, none⟩ = some (.int .i64 mv)) := Lib.hid (fun W hW => ⟨hW, hW.at2.cell 0, hW.at1.cell 0, hW.at1.cell 1, hW.top.cell 0, hW.top.cell 1, hW.top.cell 2, hW.top.cell 3⟩)
        have F10 : Fr w _ [(w.heap.size + 1 + 1, 65, #[.slice gf.A cs.length gf.c, .int .i64 fl.a, .int .i64 fl.b, .int .i64 mv]), (w.heap.size + 1, 51, #[.int .i64 p, .int .i64 len]), (w.heap.size, 49, #[.slice gt.A ls.length gt.c])] := FC5.out
        clear FC5
        go_region_held3 (fun W => Fr w W [(w.heap.size + 1 + 1, 65, #[.slice gf.A cs.length gf.c, .int .i64 fl.a, .int .i64 fl.b, .int .i64 mv]), (w.heap.size + 1, 51, #[.int .i64 p, .int .i64 len]), (w.heap.size, 49, #[.slice gt.A ls.length gt.c])] ∧ W.cell? ⟨w.heap.size, 0, none⟩ = some (.slice gt.A ls.length gt.c) ∧ W.cell? ⟨w.heap.size + 1, 0, none⟩ = some (.int .i64 p) ∧ W.cell? ⟨w.heap.size + 1, 1, none⟩ = some (.int .i64 len) ∧ W.cell? ⟨w.heap.size + 1 + 1, 0, none⟩ = some (.slice gf.A cs.length gf.c) ∧ W.cell? ⟨w.heap.size + 1 + 1, 1, none⟩ = some (.int .i64 fl.a) ∧ W.cell? ⟨w.heap.size + 1 + 1, 2, none⟩ = some (.int .i64 fl.b) ∧ W.cell? ⟨w.heap.size + 1 + 1, 3, none⟩ = some (.int .i64 mv))
          ((go_split_ands; refine HALL.out _ ?_; (first | assumption | (repeat (first | assumption | refine Fr.new ?_ _ | refine Fr.drew ?_ | (refine Fr.set ?_ (by first | exact Nat.le_refl _ | omega | (simp; done) | (simp; omega)) (by first | (simp; done) | (simp; omega)) _))); done)))
          ((first
            | (go_at_call 30; go_split_ands; (with_reducible refine (CopyTrack_any ls gt (by omega) HG.out _ (Fr.lies HA.out (by assumption))).mono ?_); rintro e w1 ⟨g2, rfl, hl2, hk2, hb1⟩; have HL1 := Lib.hid hl2; (first | (have HL2 := Lib.hid (Lies.call HL2.out hb1)) | skip); have F4 := Fr.call (by assumption) hb1; clear hb1 hl2 hk2)
            | (go_at_call 37; go_split_ands; (with_reducible refine (CopyFeed_any cs gf fl mv (by omega) HGF.out _ (Fr.lies HC.out (by assumption))).mono ?_); rintro e w1 ⟨g2, rfl, hl2, hk2, hb1⟩; have HL2 := Lib.hid hl2; (first | (have HL1 := Lib.hid (Lies.call HL1.out hb1)) | skip); have F4 := Fr.call (by assumption) hb1; clear hb1 hl2 hk2)
            | (go_at_call 38; go_split_ands; (with_reducible refine (HGO.out _ _ _ _ _ HL1.out HL2.out).mono ?_); rintro e w1 ⟨rfl, hb1⟩; have F5 := Fr.call (by assumption) hb1; clear hb1)
            | fail "arm"))
        all_goals
          go_split_ands
          go_wp2_with fail
          go_meet
          exact ⟨rfl, rfl, by assumption⟩
      case rest =>
        obtain ⟨wx, rfl⟩ : ∃ W, W = wc := ⟨_, rfl⟩
        obtain ⟨rfl, rfl, hx⟩ := hcut
        have FC6 : Hid (Fr w _ [(w.heap.size + 1 + 1, 65, #[.slice gf.A cs.length gf.c, .int .i64 fl.a, .int .i64 fl.b, .int .i64 mv]), (w.heap.size + 1, 51, #[.int .i64 p, .int .i64 len]), (w.heap.size, 49, #[.slice gt.A ls.length gt.c])]) := Lib.hid hx
        clear k0_0 kf0 kz0 k1_0 k1_1 kf1 kg1 kz1 k2_0 k2_1 k2_2 k2_3 kz2 hx FC5
        obtain ⟨k0_0, kf0⟩ := (FC6.out.get 2 rfl).one
        have kz0 := (FC6.out.get 2 rfl).lt
        obtain ⟨k1_0, k1_1, kf1, kg1⟩ := (FC6.out.get 1 rfl).two
        have kz1 := (FC6.out.get 1 rfl).lt
        obtain ⟨k2_0, k2_1, k2_2, k2_3⟩ := (FC6.out.get 0 rfl).four
        have kz2 := (FC6.out.get 0 rfl).lt
        go_wp2_with fail
        refine (TrackErr_any ls gt.A gt.c (by omega) _ (Fr.lies HA.out FC6.out)).mono ?_
        rintro e w2 ⟨rfl, hb2⟩
        rw [HT.out]
        clear k0_0 kf0 kz0 k1_0 k1_1 kf1 kg1 kz1 k2_0 k2_1 k2_2 k2_3 kz2
        have G2 := Fr.call FC6.out hb2
        obtain ⟨k0_0, kf0⟩ := (G2.get 2 rfl).one
        have kz0 := (G2.get 2 rfl).lt
        obtain ⟨k1_0, k1_1, kf1, kg1⟩ := (G2.get 1 rfl).two
        have kz1 := (G2.get 1 rfl).lt
        obtain ⟨k2_0, k2_1, k2_2, k2_3⟩ := (G2.get 0 rfl).four
        have kz2 := (G2.get 0 rfl).lt
        have F2 : Hid (Fr w _ [(w.heap.size + 1 + 1, 65, #[.slice gf.A cs.length gf.c, .int .i64 fl.a, .int .i64 fl.b, .int .i64 mv]), (w.heap.size + 1, 51, #[.int .i64 p, .int .i64 len]), (w.heap.size, 49, #[.slice gt.A ls.length gt.c])]) := Lib.hid G2
        clear hb2 G2 FC6
        go_wp2_with fail
        go_ret
        exact ⟨rfl, F2.out.bl⟩

set_option maxHeartbeats 4000000 in
set_option maxRecDepth 100000 in
theorem ontrack_train (ls : List Int) (gt : Hd) (hg : HdOk gt) (p len : Int) (cs : List T3) (gf : Hd) (hgf : HdOk gf) (fl : T3) (mv : Int) (hl : ls.length ≤ 14) (hl2 : cs.length ≤ 14) (hmv : mv ≤ 40 ∨ 2000 < mv) (ht : trkE ls = (0, 0)) (h1 : ls.length ≤ 12) (hx : ∀ x ∈ ls, inB x 1 1000000 = true) (er : Int) (hn : trnE ls p len = er) (hr : er ≠ 0) (w : World) (hT : Tab w) (hA : Lies w w.heap.size gt.A (ic ls)) (hC : Lies w w.heap.size gf.A (cs.flatMap tc)) : Calls Tryd.prog 6 #[.agg #[.slice gt.A ls.length gt.c], .agg #[.int .i64 p, .int .i64 len], .agg #[.slice gf.A cs.length gf.c, .int .i64 fl.a, .int .i64 fl.b, .int .i64 mv]] w fun e w' => e = .returned (.bool true) ∧ Below w.heap.size w w' := by
  have F0 := Lib.hid (Fr.b3 w 49 #[.slice gt.A ls.length gt.c] 51 #[.int .i64 p, .int .i64 len] 65 #[.slice gf.A cs.length gf.c, .int .i64 fl.a, .int .i64 fl.b, .int .i64 mv])
  have T0 := Lib.hid (((hT.new (.cells #[.slice gt.A ls.length gt.c] 49)).new (.cells #[.int .i64 p, .int .i64 len] 51)).new (.cells #[.slice gf.A cs.length gf.c, .int .i64 fl.a, .int .i64 fl.b, .int .i64 mv] 65))
  clear hT
  have HA := Lib.hid hA
  have HG := Lib.hid hg
  have HC := Lib.hid hC
  have HGF := Lib.hid hgf
  clear hA hg hC hgf
  have HS : Hid (decide ((ls.length : Int) ≤ 14) = true) := Lib.hid (by simp; omega)
  have hcl : (cs.length : Int) ≤ 14 := by omega
  have hq : plcE ls p len = er := by rw [plc_trn (by rw [ht]), hn]
  have he : fedE ls p len cs fl = er := by rw [fed_plc (by rw [hq]; exact hr), hq]
  have HFO : Hid (∀ (w : World) (A : Option Addr) (c : Nat) (C : Option Addr) (d : Nat), Lies w w.heap.size A (ic ls) → Lies w w.heap.size C (cs.flatMap tc) → Calls Tryd.prog 36 #[.agg #[.slice A ls.length c], .agg #[.int .i64 p, .int .i64 len], .agg #[.slice C cs.length d, .int .i64 fl.a, .int .i64 fl.b, .int .i64 mv]] w fun e w' => e = .returned (.tuple #[.int .i64 0, .int .i64 er]) ∧ Below w.heap.size w w') := Lib.hid (fun w A c C d h1 h2 => ForceAt_bad ls A c p len cs C d fl mv (by unfold maxLen; omega) (by omega) er he hr w h1 h2)
  have HGO : Hid (∀ (w : World) (A : Option Addr) (c : Nat) (C : Option Addr) (d : Nat), Lies w w.heap.size A (ic ls) → Lies w w.heap.size C (cs.flatMap tc) → Calls Tryd.prog 38 #[.agg #[.slice A ls.length c], .agg #[.int .i64 p, .int .i64 len], .agg #[.slice C cs.length d, .int .i64 fl.a, .int .i64 fl.b, .int .i64 mv]] w fun e w' => e = .returned (.tuple #[.int .i64 0, .int .i64 er]) ∧ Below w.heap.size w w') := Lib.hid (fun w A c C d h1 h2 => GreatestStep_fed ls A c p len cs C d fl mv (by unfold maxLen; omega) (by omega) er he hr w h1 h2)
  have HT : Hid ((trkE ls).2 = 0) := Lib.hid (by rw [ht])
  have HN := Lib.hid hn
  have HX := Lib.hid hx
  have ge : (er == 0) = false := by simp [hr]
  have gn : (er != 0) = true := by simp [hr]
  clear ht hr he hq hn hx
  go_enter Tryd.func6, Tryd.ntmps6
  go_wp2_with fail
  refine (awake_any _ T0.out).mono ?_
  rintro e w1 ⟨rfl, hb1⟩
  have G1 := Fr.call F0.out hb1
  obtain ⟨k0_0, kf0⟩ := (G1.get 2 rfl).one
  have kz0 := (G1.get 2 rfl).lt
  obtain ⟨k1_0, k1_1, kf1, kg1⟩ := (G1.get 1 rfl).two
  have kz1 := (G1.get 1 rfl).lt
  obtain ⟨k2_0, k2_1, k2_2, k2_3⟩ := (G1.get 0 rfl).four
  have kz2 := (G1.get 0 rfl).lt
  have F1 : Hid (Fr w _ [(w.heap.size + 1 + 1, 65, #[.slice gf.A cs.length gf.c, .int .i64 fl.a, .int .i64 fl.b, .int .i64 mv]), (w.heap.size + 1, 51, #[.int .i64 p, .int .i64 len]), (w.heap.size, 49, #[.slice gt.A ls.length gt.c])]) := Lib.hid G1
  clear hb1 G1 F0
  go_upto_region 3 with fail
  go_cut [32] from 14 to 32 (fun r W => r = .bool false ∧ Fr w W [(w.heap.size + 1 + 1, 65, #[.slice gf.A cs.length gf.c, .int .i64 fl.a, .int .i64 fl.b, .int .i64 mv]), (w.heap.size + 1, 51, #[.int .i64 p, .int .i64 len]), (w.heap.size, 49, #[.slice gt.A ls.length gt.c])])
  case first =>
    clear HFO HGO
    rcases hmv with hmv | hmv
    all_goals
      go_wp2_with fail
      refine (sections_any gt.A ls.length gt.c _).mono ?_
      rintro e w9 ⟨rfl, hb9⟩
      rw [HS.out]
      have G9 := Fr.call F1.out hb9
      clear hb9
      obtain ⟨x0, x1, x2, x3⟩ := G9.top.four
      have hz9 := G9.top.lt
      go_wp2_with fail
      go_meet
      exact ⟨by first | rfl | exact congrArg Value.bool (by simp only [Bool.or_eq_false_iff, decide_eq_false_iff_not]; omega), G9⟩
  case rest =>
    obtain ⟨wx, rfl⟩ : ∃ W, W = wc := ⟨_, rfl⟩
    obtain ⟨rfl, hx⟩ := hcut
    have FC3 : Hid (Fr w _ [(w.heap.size + 1 + 1, 65, #[.slice gf.A cs.length gf.c, .int .i64 fl.a, .int .i64 fl.b, .int .i64 mv]), (w.heap.size + 1, 51, #[.int .i64 p, .int .i64 len]), (w.heap.size, 49, #[.slice gt.A ls.length gt.c])]) := Lib.hid hx
    clear k0_0 kf0 kz0 k1_0 k1_1 kf1 kg1 kz1 k2_0 k2_1 k2_2 k2_3 kz2 hx F1
    obtain ⟨k0_0, kf0⟩ := (FC3.out.get 2 rfl).one
    have kz0 := (FC3.out.get 2 rfl).lt
    obtain ⟨k1_0, k1_1, kf1, kg1⟩ := (FC3.out.get 1 rfl).two
    have kz1 := (FC3.out.get 1 rfl).lt
    obtain ⟨k2_0, k2_1, k2_2, k2_3⟩ := (FC3.out.get 0 rfl).four
    have kz2 := (FC3.out.get 0 rfl).lt
    go_upto_region 5 with fail
    go_cut [7, 8] from 33 to 41 (fun r s W => r = .int .i64 0 ∧ s = .int .i64 er ∧ Fr w W [(w.heap.size + 1 + 1, 65, #[.slice gf.A cs.length gf.c, .int .i64 fl.a, .int .i64 fl.b, .int .i64 mv]), (w.heap.size + 1, 51, #[.int .i64 p, .int .i64 len]), (w.heap.size, 49, #[.slice gt.A ls.length gt.c])])
    case first =>
      have HALL : Hid (∀ W, Fr w W [(w.heap.size + 1 + 1, 65, #[.slice gf.A cs.length gf.c, .int .i64 fl.a, .int .i64 fl.b, .int .i64 mv]), (w.heap.size + 1, 51, #[.int .i64 p, .int .i64 len]), (w.heap.size, 49, #[.slice gt.A ls.length gt.c])] → Fr w W [(w.heap.size + 1 + 1, 65, #[.slice gf.A cs.length gf.c, .int .i64 fl.a, .int .i64 fl.b, .int .i64 mv]), (w.heap.size + 1, 51, #[.int .i64 p, .int .i64 len]), (w.heap.size, 49, #[.slice gt.A ls.length gt.c])] ∧ W.cell? ⟨w.heap.size, 0, none⟩ = some (.slice gt.A ls.length gt.c) ∧ W.cell? ⟨w.heap.size + 1, 0, none⟩ = some (.int .i64 p) ∧ W.cell? ⟨w.heap.size + 1, 1, none⟩ = some (.int .i64 len) ∧ W.cell? ⟨w.heap.size + 1 + 1, 0, none⟩ = some (.slice gf.A cs.length gf.c) ∧ W.cell? ⟨w.heap.size + 1 + 1, 1, none⟩ = some (.int .i64 fl.a) ∧ W.cell? ⟨w.heap.size + 1 + 1, 2, none⟩ = some (.int .i64 fl.b) ∧ W.cell? ⟨w.heap.size + 1 + 1, 3, none⟩ = some (.int .i64 mv)) := Lib.hid (fun W hW => ⟨hW, hW.at2.cell 0, hW.at1.cell 0, hW.at1.cell 1, hW.top.cell 0, hW.top.cell 1, hW.top.cell 2, hW.top.cell 3⟩)
      have F10 : Fr w _ [(w.heap.size + 1 + 1, 65, #[.slice gf.A cs.length gf.c, .int .i64 fl.a, .int .i64 fl.b, .int .i64 mv]), (w.heap.size + 1, 51, #[.int .i64 p, .int .i64 len]), (w.heap.size, 49, #[.slice gt.A ls.length gt.c])] := FC3.out
      clear FC3
      go_region_held3 (fun W => Fr w W [(w.heap.size + 1 + 1, 65, #[.slice gf.A cs.length gf.c, .int .i64 fl.a, .int .i64 fl.b, .int .i64 mv]), (w.heap.size + 1, 51, #[.int .i64 p, .int .i64 len]), (w.heap.size, 49, #[.slice gt.A ls.length gt.c])] ∧ W.cell? ⟨w.heap.size, 0, none⟩ = some (.slice gt.A ls.length gt.c) ∧ W.cell? ⟨w.heap.size + 1, 0, none⟩ = some (.int .i64 p) ∧ W.cell? ⟨w.heap.size + 1, 1, none⟩ = some (.int .i64 len) ∧ W.cell? ⟨w.heap.size + 1 + 1, 0, none⟩ = some (.slice gf.A cs.length gf.c) ∧ W.cell? ⟨w.heap.size + 1 + 1, 1, none⟩ = some (.int .i64 fl.a) ∧ W.cell? ⟨w.heap.size + 1 + 1, 2, none⟩ = some (.int .i64 fl.b) ∧ W.cell? ⟨w.heap.size + 1 + 1, 3, none⟩ = some (.int .i64 mv))
        ((go_split_ands; refine HALL.out _ ?_; (first | assumption | (repeat (first | assumption | refine Fr.new ?_ _ | refine Fr.drew ?_ | (refine Fr.set ?_ (by first | exact Nat.le_refl _ | omega | (simp; done) | (simp; omega)) (by first | (simp; done) | (simp; omega)) _))); done)))
        ((first
          | (go_at_call 30; go_split_ands; (with_reducible refine (CopyTrack_any ls gt (by omega) HG.out _ (Fr.lies HA.out (by assumption))).mono ?_); rintro e w1 ⟨g2, rfl, hl2, hk2, hb1⟩; have HL1 := Lib.hid hl2; (first | (have HL2 := Lib.hid (Lies.call HL2.out hb1)) | skip); have F4 := Fr.call (by assumption) hb1; clear hb1 hl2 hk2)
          | (go_at_call 37; go_split_ands; (with_reducible refine (CopyFeed_any cs gf fl mv (by omega) HGF.out _ (Fr.lies HC.out (by assumption))).mono ?_); rintro e w1 ⟨g2, rfl, hl2, hk2, hb1⟩; have HL2 := Lib.hid hl2; (first | (have HL1 := Lib.hid (Lies.call HL1.out hb1)) | skip); have F4 := Fr.call (by assumption) hb1; clear hb1 hl2 hk2)
          | (go_at_call 36; go_split_ands; (with_reducible refine (HFO.out _ _ _ _ _ HL1.out HL2.out).mono ?_); rintro e w1 ⟨rfl, hb1⟩; have F5 := Fr.call (by assumption) hb1; clear hb1)
          | fail "arm"))
      all_goals
        go_split_ands
        go_wp2_with fail
        go_meet
        exact ⟨rfl, rfl, by assumption⟩
    case rest =>
      obtain ⟨wx, rfl⟩ : ∃ W, W = wc := ⟨_, rfl⟩
      obtain ⟨rfl, rfl, hx⟩ := hcut
      have FC5 : Hid (Fr w _ [(w.heap.size + 1 + 1, 65, #[.slice gf.A cs.length gf.c, .int .i64 fl.a, .int .i64 fl.b, .int .i64 mv]), (w.heap.size + 1, 51, #[.int .i64 p, .int .i64 len]), (w.heap.size, 49, #[.slice gt.A ls.length gt.c])]) := Lib.hid hx
      clear k0_0 kf0 kz0 k1_0 k1_1 kf1 kg1 kz1 k2_0 k2_1 k2_2 k2_3 kz2 hx FC3
      obtain ⟨k0_0, kf0⟩ := (FC5.out.get 2 rfl).one
      have kz0 := (FC5.out.get 2 rfl).lt
      obtain ⟨k1_0, k1_1, kf1, kg1⟩ := (FC5.out.get 1 rfl).two
      have kz1 := (FC5.out.get 1 rfl).lt
      obtain ⟨k2_0, k2_1, k2_2, k2_3⟩ := (FC5.out.get 0 rfl).four
      have kz2 := (FC5.out.get 0 rfl).lt
      go_upto_region 6 with fail
      go_cut [9, 10] from 42 to 50 (fun r s W => r = .int .i64 0 ∧ s = .int .i64 er ∧ Fr w W [(w.heap.size + 1 + 1, 65, #[.slice gf.A cs.length gf.c, .int .i64 fl.a, .int .i64 fl.b, .int .i64 mv]), (w.heap.size + 1, 51, #[.int .i64 p, .int .i64 len]), (w.heap.size, 49, #[.slice gt.A ls.length gt.c])])
      case first =>
        have HALL : Hid (∀ W, Fr w W [(w.heap.size + 1 + 1, 65, #[.slice gf.A cs.length gf.c, .int .i64 fl.a, .int .i64 fl.b, .int .i64 mv]), (w.heap.size + 1, 51, #[.int .i64 p, .int .i64 len]), (w.heap.size, 49, #[.slice gt.A ls.length gt.c])] → Fr w W [(w.heap.size + 1 + 1, 65, #[.slice gf.A cs.length gf.c, .int .i64 fl.a, .int .i64 fl.b, .int .i64 mv]), (w.heap.size + 1, 51, #[.int .i64 p, .int .i64 len]), (w.heap.size, 49, #[.slice gt.A ls.length gt.c])] ∧ W.cell? ⟨w.heap.size, 0, none⟩ = some (.slice gt.A ls.length gt.c) ∧ W.cell? ⟨w.heap.size + 1, 0, none⟩ = some (.int .i64 p) ∧ W.cell? ⟨w.heap.size + 1, 1, none⟩ = some (.int .i64 len) ∧ W.cell? ⟨w.heap.size + 1 + 1, 0, none⟩ = some (.slice gf.A cs.length gf.c) ∧ W.cell? ⟨w.heap.size + 1 + 1, 1, none⟩ = some (.int .i64 fl.a) ∧ W.cell? ⟨w.heap.size + 1 + 1, 2, none⟩ = some (.int .i64 fl.b) ∧ W.cell? ⟨w.heap.size + 1 + 1, 3, none⟩ = some (.int .i64 mv)) := Lib.hid (fun W hW => ⟨hW, hW.at2.cell 0, hW.at1.cell 0, hW.at1.cell 1, hW.top.cell 0, hW.top.cell 1, hW.top.cell 2, hW.top.cell 3⟩)
        have F10 : Fr w _ [(w.heap.size + 1 + 1, 65, #[.slice gf.A cs.length gf.c, .int .i64 fl.a, .int .i64 fl.b, .int .i64 mv]), (w.heap.size + 1, 51, #[.int .i64 p, .int .i64 len]), (w.heap.size, 49, #[.slice gt.A ls.length gt.c])] := FC5.out
        clear FC5
        go_region_held3 (fun W => Fr w W [(w.heap.size + 1 + 1, 65, #[.slice gf.A cs.length gf.c, .int .i64 fl.a, .int .i64 fl.b, .int .i64 mv]), (w.heap.size + 1, 51, #[.int .i64 p, .int .i64 len]), (w.heap.size, 49, #[.slice gt.A ls.length gt.c])] ∧ W.cell? ⟨w.heap.size, 0, none⟩ = some (.slice gt.A ls.length gt.c) ∧ W.cell? ⟨w.heap.size + 1, 0, none⟩ = some (.int .i64 p) ∧ W.cell? ⟨w.heap.size + 1, 1, none⟩ = some (.int .i64 len) ∧ W.cell? ⟨w.heap.size + 1 + 1, 0, none⟩ = some (.slice gf.A cs.length gf.c) ∧ W.cell? ⟨w.heap.size + 1 + 1, 1, none⟩ = some (.int .i64 fl.a) ∧ W.cell? ⟨w.heap.size + 1 + 1, 2, none⟩ = some (.int .i64 fl.b) ∧ W.cell? ⟨w.heap.size + 1 + 1, 3, none⟩ = some (.int .i64 mv))
          ((go_split_ands; refine HALL.out _ ?_; (first | assumption | (repeat (first | assumption | refine Fr.new ?_ _ | refine Fr.drew ?_ | (refine Fr.set ?_ (by first | exact Nat.le_refl _ | omega | (simp; done) | (simp; omega)) (by first | (simp; done) | (simp; omega)) _))); done)))
          ((first
            | (go_at_call 30; go_split_ands; (with_reducible refine (CopyTrack_any ls gt (by omega) HG.out _ (Fr.lies HA.out (by assumption))).mono ?_); rintro e w1 ⟨g2, rfl, hl2, hk2, hb1⟩; have HL1 := Lib.hid hl2; (first | (have HL2 := Lib.hid (Lies.call HL2.out hb1)) | skip); have F4 := Fr.call (by assumption) hb1; clear hb1 hl2 hk2)
            | (go_at_call 37; go_split_ands; (with_reducible refine (CopyFeed_any cs gf fl mv (by omega) HGF.out _ (Fr.lies HC.out (by assumption))).mono ?_); rintro e w1 ⟨g2, rfl, hl2, hk2, hb1⟩; have HL2 := Lib.hid hl2; (first | (have HL1 := Lib.hid (Lies.call HL1.out hb1)) | skip); have F4 := Fr.call (by assumption) hb1; clear hb1 hl2 hk2)
            | (go_at_call 38; go_split_ands; (with_reducible refine (HGO.out _ _ _ _ _ HL1.out HL2.out).mono ?_); rintro e w1 ⟨rfl, hb1⟩; have F5 := Fr.call (by assumption) hb1; clear hb1)
            | fail "arm"))
        all_goals
          go_split_ands
          go_wp2_with fail
          go_meet
          exact ⟨rfl, rfl, by assumption⟩
      case rest =>
        obtain ⟨wx, rfl⟩ : ∃ W, W = wc := ⟨_, rfl⟩
        obtain ⟨rfl, rfl, hx⟩ := hcut
        have FC6 : Hid (Fr w _ [(w.heap.size + 1 + 1, 65, #[.slice gf.A cs.length gf.c, .int .i64 fl.a, .int .i64 fl.b, .int .i64 mv]), (w.heap.size + 1, 51, #[.int .i64 p, .int .i64 len]), (w.heap.size, 49, #[.slice gt.A ls.length gt.c])]) := Lib.hid hx
        clear k0_0 kf0 kz0 k1_0 k1_1 kf1 kg1 kz1 k2_0 k2_1 k2_2 k2_3 kz2 hx FC5
        obtain ⟨k0_0, kf0⟩ := (FC6.out.get 2 rfl).one
        have kz0 := (FC6.out.get 2 rfl).lt
        obtain ⟨k1_0, k1_1, kf1, kg1⟩ := (FC6.out.get 1 rfl).two
        have kz1 := (FC6.out.get 1 rfl).lt
        obtain ⟨k2_0, k2_1, k2_2, k2_3⟩ := (FC6.out.get 0 rfl).four
        have kz2 := (FC6.out.get 0 rfl).lt
        go_wp2_with fail
        refine (TrackErr_any ls gt.A gt.c (by omega) _ (Fr.lies HA.out FC6.out)).mono ?_
        rintro e w2 ⟨rfl, hb2⟩
        rw [HT.out]
        clear k0_0 kf0 kz0 k1_0 k1_1 kf1 kg1 kz1 k2_0 k2_1 k2_2 k2_3 kz2
        have G2 := Fr.call FC6.out hb2
        obtain ⟨k0_0, kf0⟩ := (G2.get 2 rfl).one
        have kz0 := (G2.get 2 rfl).lt
        obtain ⟨k1_0, k1_1, kf1, kg1⟩ := (G2.get 1 rfl).two
        have kz1 := (G2.get 1 rfl).lt
        obtain ⟨k2_0, k2_1, k2_2, k2_3⟩ := (G2.get 0 rfl).four
        have kz2 := (G2.get 0 rfl).lt
        have F2 : Hid (Fr w _ [(w.heap.size + 1 + 1, 65, #[.slice gf.A cs.length gf.c, .int .i64 fl.a, .int .i64 fl.b, .int .i64 mv]), (w.heap.size + 1, 51, #[.int .i64 p, .int .i64 len]), (w.heap.size, 49, #[.slice gt.A ls.length gt.c])]) := Lib.hid G2
        clear hb2 G2 FC6
        go_wp2_with fail
        refine (TrainErr_any ls gt.A gt.c h1 HX.out p len _ (Fr.lies HA.out F2.out)).mono ?_
        rintro e w3 ⟨rfl, hb3⟩
        rw [HN.out]
        clear k0_0 kf0 kz0 k1_0 k1_1 kf1 kg1 kz1 k2_0 k2_1 k2_2 k2_3 kz2
        have G3 := Fr.call F2.out hb3
        obtain ⟨k0_0, kf0⟩ := (G3.get 2 rfl).one
        have kz0 := (G3.get 2 rfl).lt
        obtain ⟨k1_0, k1_1, kf1, kg1⟩ := (G3.get 1 rfl).two
        have kz1 := (G3.get 1 rfl).lt
        obtain ⟨k2_0, k2_1, k2_2, k2_3⟩ := (G3.get 0 rfl).four
        have kz2 := (G3.get 0 rfl).lt
        have F3 : Hid (Fr w _ [(w.heap.size + 1 + 1, 65, #[.slice gf.A cs.length gf.c, .int .i64 fl.a, .int .i64 fl.b, .int .i64 mv]), (w.heap.size + 1, 51, #[.int .i64 p, .int .i64 len]), (w.heap.size, 49, #[.slice gt.A ls.length gt.c])]) := Lib.hid G3
        clear hb3 G3 F2
        go_wp2_with fail
        go_ret
        exact ⟨rfl, F3.out.bl⟩

set_option maxHeartbeats 4000000 in
set_option maxRecDepth 100000 in
theorem ontrack_feed (ls : List Int) (gt : Hd) (hg : HdOk gt) (p len : Int) (cs : List T3) (gf : Hd) (hgf : HdOk gf) (fl : T3) (mv : Int) (hl : ls.length ≤ 14) (hl2 : cs.length ≤ 14) (hmv : mv ≤ 40 ∨ 2000 < mv) (ht : trkE ls = (0, 0)) (h1 : ls.length ≤ 12) (hx : ∀ x ∈ ls, inB x 1 1000000 = true) (hn : trnE ls p len = 0) (er : Int) (hf : feE ls cs fl = er) (hr : er ≠ 0) (w : World) (hT : Tab w) (hA : Lies w w.heap.size gt.A (ic ls)) (hC : Lies w w.heap.size gf.A (cs.flatMap tc)) : Calls Tryd.prog 6 #[.agg #[.slice gt.A ls.length gt.c], .agg #[.int .i64 p, .int .i64 len], .agg #[.slice gf.A cs.length gf.c, .int .i64 fl.a, .int .i64 fl.b, .int .i64 mv]] w fun e w' => e = .returned (.bool true) ∧ Below w.heap.size w w' := by
  have F0 := Lib.hid (Fr.b3 w 49 #[.slice gt.A ls.length gt.c] 51 #[.int .i64 p, .int .i64 len] 65 #[.slice gf.A cs.length gf.c, .int .i64 fl.a, .int .i64 fl.b, .int .i64 mv])
  have T0 := Lib.hid (((hT.new (.cells #[.slice gt.A ls.length gt.c] 49)).new (.cells #[.int .i64 p, .int .i64 len] 51)).new (.cells #[.slice gf.A cs.length gf.c, .int .i64 fl.a, .int .i64 fl.b, .int .i64 mv] 65))
  clear hT
  have HA := Lib.hid hA
  have HG := Lib.hid hg
  have HC := Lib.hid hC
  have HGF := Lib.hid hgf
  clear hA hg hC hgf
  have HS : Hid (decide ((ls.length : Int) ≤ 14) = true) := Lib.hid (by simp; omega)
  have hcl : (cs.length : Int) ≤ 14 := by omega
  have hq : plcE ls p len = 0 := by rw [plc_trn (by rw [ht]), hn]
  have he : fedE ls p len cs fl = er := by rw [fed_fe hq, hf]
  have HFO : Hid (∀ (w : World) (A : Option Addr) (c : Nat) (C : Option Addr) (d : Nat), Lies w w.heap.size A (ic ls) → Lies w w.heap.size C (cs.flatMap tc) → Calls Tryd.prog 36 #[.agg #[.slice A ls.length c], .agg #[.int .i64 p, .int .i64 len], .agg #[.slice C cs.length d, .int .i64 fl.a, .int .i64 fl.b, .int .i64 mv]] w fun e w' => e = .returned (.tuple #[.int .i64 0, .int .i64 er]) ∧ Below w.heap.size w w') := Lib.hid (fun w A c C d h1 h2 => ForceAt_bad ls A c p len cs C d fl mv (by unfold maxLen; omega) (by omega) er he hr w h1 h2)
  have HGO : Hid (∀ (w : World) (A : Option Addr) (c : Nat) (C : Option Addr) (d : Nat), Lies w w.heap.size A (ic ls) → Lies w w.heap.size C (cs.flatMap tc) → Calls Tryd.prog 38 #[.agg #[.slice A ls.length c], .agg #[.int .i64 p, .int .i64 len], .agg #[.slice C cs.length d, .int .i64 fl.a, .int .i64 fl.b, .int .i64 mv]] w fun e w' => e = .returned (.tuple #[.int .i64 0, .int .i64 er]) ∧ Below w.heap.size w w') := Lib.hid (fun w A c C d h1 h2 => GreatestStep_fed ls A c p len cs C d fl mv (by unfold maxLen; omega) (by omega) er he hr w h1 h2)
  have HT : Hid ((trkE ls).2 = 0) := Lib.hid (by rw [ht])
  have HN := Lib.hid hn
  have HX := Lib.hid hx
  have HFE := Lib.hid hf
  have ge : (er == 0) = false := by simp [hr]
  have gn : (er != 0) = true := by simp [hr]
  clear ht hr he hq hn hx hf
  go_enter Tryd.func6, Tryd.ntmps6
  go_wp2_with fail
  refine (awake_any _ T0.out).mono ?_
  rintro e w1 ⟨rfl, hb1⟩
  have G1 := Fr.call F0.out hb1
  obtain ⟨k0_0, kf0⟩ := (G1.get 2 rfl).one
  have kz0 := (G1.get 2 rfl).lt
  obtain ⟨k1_0, k1_1, kf1, kg1⟩ := (G1.get 1 rfl).two
  have kz1 := (G1.get 1 rfl).lt
  obtain ⟨k2_0, k2_1, k2_2, k2_3⟩ := (G1.get 0 rfl).four
  have kz2 := (G1.get 0 rfl).lt
  have F1 : Hid (Fr w _ [(w.heap.size + 1 + 1, 65, #[.slice gf.A cs.length gf.c, .int .i64 fl.a, .int .i64 fl.b, .int .i64 mv]), (w.heap.size + 1, 51, #[.int .i64 p, .int .i64 len]), (w.heap.size, 49, #[.slice gt.A ls.length gt.c])]) := Lib.hid G1
  clear hb1 G1 F0
  go_upto_region 3 with fail
  go_cut [32] from 14 to 32 (fun r W => r = .bool false ∧ Fr w W [(w.heap.size + 1 + 1, 65, #[.slice gf.A cs.length gf.c, .int .i64 fl.a, .int .i64 fl.b, .int .i64 mv]), (w.heap.size + 1, 51, #[.int .i64 p, .int .i64 len]), (w.heap.size, 49, #[.slice gt.A ls.length gt.c])])
  case first =>
    clear HFO HGO
    rcases hmv with hmv | hmv
    all_goals
      go_wp2_with fail
      refine (sections_any gt.A ls.length gt.c _).mono ?_
      rintro e w9 ⟨rfl, hb9⟩
      rw [HS.out]
      have G9 := Fr.call F1.out hb9
      clear hb9
      obtain ⟨x0, x1, x2, x3⟩ := G9.top.four
      have hz9 := G9.top.lt
      go_wp2_with fail
      go_meet
      exact ⟨by first | rfl | exact congrArg Value.bool (by simp only [Bool.or_eq_false_iff, decide_eq_false_iff_not]; omega), G9⟩
  case rest =>
    obtain ⟨wx, rfl⟩ : ∃ W, W = wc := ⟨_, rfl⟩
    obtain ⟨rfl, hx⟩ := hcut
    have FC3 : Hid (Fr w _ [(w.heap.size + 1 + 1, 65, #[.slice gf.A cs.length gf.c, .int .i64 fl.a, .int .i64 fl.b, .int .i64 mv]), (w.heap.size + 1, 51, #[.int .i64 p, .int .i64 len]), (w.heap.size, 49, #[.slice gt.A ls.length gt.c])]) := Lib.hid hx
    clear k0_0 kf0 kz0 k1_0 k1_1 kf1 kg1 kz1 k2_0 k2_1 k2_2 k2_3 kz2 hx F1
    obtain ⟨k0_0, kf0⟩ := (FC3.out.get 2 rfl).one
    have kz0 := (FC3.out.get 2 rfl).lt
    obtain ⟨k1_0, k1_1, kf1, kg1⟩ := (FC3.out.get 1 rfl).two
    have kz1 := (FC3.out.get 1 rfl).lt
    obtain ⟨k2_0, k2_1, k2_2, k2_3⟩ := (FC3.out.get 0 rfl).four
    have kz2 := (FC3.out.get 0 rfl).lt
    go_upto_region 5 with fail
    go_cut [7, 8] from 33 to 41 (fun r s W => r = .int .i64 0 ∧ s = .int .i64 er ∧ Fr w W [(w.heap.size + 1 + 1, 65, #[.slice gf.A cs.length gf.c, .int .i64 fl.a, .int .i64 fl.b, .int .i64 mv]), (w.heap.size + 1, 51, #[.int .i64 p, .int .i64 len]), (w.heap.size, 49, #[.slice gt.A ls.length gt.c])])
    case first =>
      have HALL : Hid (∀ W, Fr w W [(w.heap.size + 1 + 1, 65, #[.slice gf.A cs.length gf.c, .int .i64 fl.a, .int .i64 fl.b, .int .i64 mv]), (w.heap.size + 1, 51, #[.int .i64 p, .int .i64 len]), (w.heap.size, 49, #[.slice gt.A ls.length gt.c])] → Fr w W [(w.heap.size + 1 + 1, 65, #[.slice gf.A cs.length gf.c, .int .i64 fl.a, .int .i64 fl.b, .int .i64 mv]), (w.heap.size + 1, 51, #[.int .i64 p, .int .i64 len]), (w.heap.size, 49, #[.slice gt.A ls.length gt.c])] ∧ W.cell? ⟨w.heap.size, 0, none⟩ = some (.slice gt.A ls.length gt.c) ∧ W.cell? ⟨w.heap.size + 1, 0, none⟩ = some (.int .i64 p) ∧ W.cell? ⟨w.heap.size + 1, 1, none⟩ = some (.int .i64 len) ∧ W.cell? ⟨w.heap.size + 1 + 1, 0, none⟩ = some (.slice gf.A cs.length gf.c) ∧ W.cell? ⟨w.heap.size + 1 + 1, 1, none⟩ = some (.int .i64 fl.a) ∧ W.cell? ⟨w.heap.size + 1 + 1, 2, none⟩ = some (.int .i64 fl.b) ∧ W.cell? ⟨w.heap.size + 1 + 1, 3, none⟩ = some (.int .i64 mv)) := Lib.hid (fun W hW => ⟨hW, hW.at2.cell 0, hW.at1.cell 0, hW.at1.cell 1, hW.top.cell 0, hW.top.cell 1, hW.top.cell 2, hW.top.cell 3⟩)
      have F10 : Fr w _ [(w.heap.size + 1 + 1, 65, #[.slice gf.A cs.length gf.c, .int .i64 fl.a, .int .i64 fl.b, .int .i64 mv]), (w.heap.size + 1, 51, #[.int .i64 p, .int .i64 len]), (w.heap.size, 49, #[.slice gt.A ls.length gt.c])] := FC3.out
      clear FC3
      go_region_held3 (fun W => Fr w W [(w.heap.size + 1 + 1, 65, #[.slice gf.A cs.length gf.c, .int .i64 fl.a, .int .i64 fl.b, .int .i64 mv]), (w.heap.size + 1, 51, #[.int .i64 p, .int .i64 len]), (w.heap.size, 49, #[.slice gt.A ls.length gt.c])] ∧ W.cell? ⟨w.heap.size, 0, none⟩ = some (.slice gt.A ls.length gt.c) ∧ W.cell? ⟨w.heap.size + 1, 0, none⟩ = some (.int .i64 p) ∧ W.cell? ⟨w.heap.size + 1, 1, none⟩ = some (.int .i64 len) ∧ W.cell? ⟨w.heap.size + 1 + 1, 0, none⟩ = some (.slice gf.A cs.length gf.c) ∧ W.cell? ⟨w.heap.size + 1 + 1, 1, none⟩ = some (.int .i64 fl.a) ∧ W.cell? ⟨w.heap.size + 1 + 1, 2, none⟩ = some (.int .i64 fl.b) ∧ W.cell? ⟨w.heap.size + 1 + 1, 3, none⟩ = some (.int .i64 mv))
        ((go_split_ands; refine HALL.out _ ?_; (first | assumption | (repeat (first | assumption | refine Fr.new ?_ _ | refine Fr.drew ?_ | (refine Fr.set ?_ (by first | exact Nat.le_refl _ | omega | (simp; done) | (simp; omega)) (by first | (simp; done) | (simp; omega)) _))); done)))
        ((first
          | (go_at_call 30; go_split_ands; (with_reducible refine (CopyTrack_any ls gt (by omega) HG.out _ (Fr.lies HA.out (by assumption))).mono ?_); rintro e w1 ⟨g2, rfl, hl2, hk2, hb1⟩; have HL1 := Lib.hid hl2; (first | (have HL2 := Lib.hid (Lies.call HL2.out hb1)) | skip); have F4 := Fr.call (by assumption) hb1; clear hb1 hl2 hk2)
          | (go_at_call 37; go_split_ands; (with_reducible refine (CopyFeed_any cs gf fl mv (by omega) HGF.out _ (Fr.lies HC.out (by assumption))).mono ?_); rintro e w1 ⟨g2, rfl, hl2, hk2, hb1⟩; have HL2 := Lib.hid hl2; (first | (have HL1 := Lib.hid (Lies.call HL1.out hb1)) | skip); have F4 := Fr.call (by assumption) hb1; clear hb1 hl2 hk2)
          | (go_at_call 36; go_split_ands; (with_reducible refine (HFO.out _ _ _ _ _ HL1.out HL2.out).mono ?_); rintro e w1 ⟨rfl, hb1⟩; have F5 := Fr.call (by assumption) hb1; clear hb1)
          | fail "arm"))
      all_goals
        go_split_ands
        go_wp2_with fail
        go_meet
        exact ⟨rfl, rfl, by assumption⟩
    case rest =>
      obtain ⟨wx, rfl⟩ : ∃ W, W = wc := ⟨_, rfl⟩
      obtain ⟨rfl, rfl, hx⟩ := hcut
      have FC5 : Hid (Fr w _ [(w.heap.size + 1 + 1, 65, #[.slice gf.A cs.length gf.c, .int .i64 fl.a, .int .i64 fl.b, .int .i64 mv]), (w.heap.size + 1, 51, #[.int .i64 p, .int .i64 len]), (w.heap.size, 49, #[.slice gt.A ls.length gt.c])]) := Lib.hid hx
      clear k0_0 kf0 kz0 k1_0 k1_1 kf1 kg1 kz1 k2_0 k2_1 k2_2 k2_3 kz2 hx FC3
      obtain ⟨k0_0, kf0⟩ := (FC5.out.get 2 rfl).one
      have kz0 := (FC5.out.get 2 rfl).lt
      obtain ⟨k1_0, k1_1, kf1, kg1⟩ := (FC5.out.get 1 rfl).two
      have kz1 := (FC5.out.get 1 rfl).lt
      obtain ⟨k2_0, k2_1, k2_2, k2_3⟩ := (FC5.out.get 0 rfl).four
      have kz2 := (FC5.out.get 0 rfl).lt
      go_upto_region 6 with fail
      go_cut [9, 10] from 42 to 50 (fun r s W => r = .int .i64 0 ∧ s = .int .i64 er ∧ Fr w W [(w.heap.size + 1 + 1, 65, #[.slice gf.A cs.length gf.c, .int .i64 fl.a, .int .i64 fl.b, .int .i64 mv]), (w.heap.size + 1, 51, #[.int .i64 p, .int .i64 len]), (w.heap.size, 49, #[.slice gt.A ls.length gt.c])])
      case first =>
        have HALL : Hid (∀ W, Fr w W [(w.heap.size + 1 + 1, 65, #[.slice gf.A cs.length gf.c, .int .i64 fl.a, .int .i64 fl.b, .int .i64 mv]), (w.heap.size + 1, 51, #[.int .i64 p, .int .i64 len]), (w.heap.size, 49, #[.slice gt.A ls.length gt.c])] → Fr w W [(w.heap.size + 1 + 1, 65, #[.slice gf.A cs.length gf.c, .int .i64 fl.a, .int .i64 fl.b, .int .i64 mv]), (w.heap.size + 1, 51, #[.int .i64 p, .int .i64 len]), (w.heap.size, 49, #[.slice gt.A ls.length gt.c])] ∧ W.cell? ⟨w.heap.size, 0, none⟩ = some (.slice gt.A ls.length gt.c) ∧ W.cell? ⟨w.heap.size + 1, 0, none⟩ = some (.int .i64 p) ∧ W.cell? ⟨w.heap.size + 1, 1, none⟩ = some (.int .i64 len) ∧ W.cell? ⟨w.heap.size + 1 + 1, 0, none⟩ = some (.slice gf.A cs.length gf.c) ∧ W.cell? ⟨w.heap.size + 1 + 1, 1, none⟩ = some (.int .i64 fl.a) ∧ W.cell? ⟨w.heap.size + 1 + 1, 2, none⟩ = some (.int .i64 fl.b) ∧ W.cell? ⟨w.heap.size + 1 + 1, 3, none⟩ = some (.int .i64 mv)) := Lib.hid (fun W hW => ⟨hW, hW.at2.cell 0, hW.at1.cell 0, hW.at1.cell 1, hW.top.cell 0, hW.top.cell 1, hW.top.cell 2, hW.top.cell 3⟩)
        have F10 : Fr w _ [(w.heap.size + 1 + 1, 65, #[.slice gf.A cs.length gf.c, .int .i64 fl.a, .int .i64 fl.b, .int .i64 mv]), (w.heap.size + 1, 51, #[.int .i64 p, .int .i64 len]), (w.heap.size, 49, #[.slice gt.A ls.length gt.c])] := FC5.out
        clear FC5
        go_region_held3 (fun W => Fr w W [(w.heap.size + 1 + 1, 65, #[.slice gf.A cs.length gf.c, .int .i64 fl.a, .int .i64 fl.b, .int .i64 mv]), (w.heap.size + 1, 51, #[.int .i64 p, .int .i64 len]), (w.heap.size, 49, #[.slice gt.A ls.length gt.c])] ∧ W.cell? ⟨w.heap.size, 0, none⟩ = some (.slice gt.A ls.length gt.c) ∧ W.cell? ⟨w.heap.size + 1, 0, none⟩ = some (.int .i64 p) ∧ W.cell? ⟨w.heap.size + 1, 1, none⟩ = some (.int .i64 len) ∧ W.cell? ⟨w.heap.size + 1 + 1, 0, none⟩ = some (.slice gf.A cs.length gf.c) ∧ W.cell? ⟨w.heap.size + 1 + 1, 1, none⟩ = some (.int .i64 fl.a) ∧ W.cell? ⟨w.heap.size + 1 + 1, 2, none⟩ = some (.int .i64 fl.b) ∧ W.cell? ⟨w.heap.size + 1 + 1, 3, none⟩ = some (.int .i64 mv))
          ((go_split_ands; refine HALL.out _ ?_; (first | assumption | (repeat (first | assumption | refine Fr.new ?_ _ | refine Fr.drew ?_ | (refine Fr.set ?_ (by first | exact Nat.le_refl _ | omega | (simp; done) | (simp; omega)) (by first | (simp; done) | (simp; omega)) _))); done)))
          ((first
            | (go_at_call 30; go_split_ands; (with_reducible refine (CopyTrack_any ls gt (by omega) HG.out _ (Fr.lies HA.out (by assumption))).mono ?_); rintro e w1 ⟨g2, rfl, hl2, hk2, hb1⟩; have HL1 := Lib.hid hl2; (first | (have HL2 := Lib.hid (Lies.call HL2.out hb1)) | skip); have F4 := Fr.call (by assumption) hb1; clear hb1 hl2 hk2)
            | (go_at_call 37; go_split_ands; (with_reducible refine (CopyFeed_any cs gf fl mv (by omega) HGF.out _ (Fr.lies HC.out (by assumption))).mono ?_); rintro e w1 ⟨g2, rfl, hl2, hk2, hb1⟩; have HL2 := Lib.hid hl2; (first | (have HL1 := Lib.hid (Lies.call HL1.out hb1)) | skip); have F4 := Fr.call (by assumption) hb1; clear hb1 hl2 hk2)
            | (go_at_call 38; go_split_ands; (with_reducible refine (HGO.out _ _ _ _ _ HL1.out HL2.out).mono ?_); rintro e w1 ⟨rfl, hb1⟩; have F5 := Fr.call (by assumption) hb1; clear hb1)
            | fail "arm"))
        all_goals
          go_split_ands
          go_wp2_with fail
          go_meet
          exact ⟨rfl, rfl, by assumption⟩
      case rest =>
        obtain ⟨wx, rfl⟩ : ∃ W, W = wc := ⟨_, rfl⟩
        obtain ⟨rfl, rfl, hx⟩ := hcut
        have FC6 : Hid (Fr w _ [(w.heap.size + 1 + 1, 65, #[.slice gf.A cs.length gf.c, .int .i64 fl.a, .int .i64 fl.b, .int .i64 mv]), (w.heap.size + 1, 51, #[.int .i64 p, .int .i64 len]), (w.heap.size, 49, #[.slice gt.A ls.length gt.c])]) := Lib.hid hx
        clear k0_0 kf0 kz0 k1_0 k1_1 kf1 kg1 kz1 k2_0 k2_1 k2_2 k2_3 kz2 hx FC5
        obtain ⟨k0_0, kf0⟩ := (FC6.out.get 2 rfl).one
        have kz0 := (FC6.out.get 2 rfl).lt
        obtain ⟨k1_0, k1_1, kf1, kg1⟩ := (FC6.out.get 1 rfl).two
        have kz1 := (FC6.out.get 1 rfl).lt
        obtain ⟨k2_0, k2_1, k2_2, k2_3⟩ := (FC6.out.get 0 rfl).four
        have kz2 := (FC6.out.get 0 rfl).lt
        go_wp2_with fail
        refine (TrackErr_any ls gt.A gt.c (by omega) _ (Fr.lies HA.out FC6.out)).mono ?_
        rintro e w2 ⟨rfl, hb2⟩
        rw [HT.out]
        clear k0_0 kf0 kz0 k1_0 k1_1 kf1 kg1 kz1 k2_0 k2_1 k2_2 k2_3 kz2
        have G2 := Fr.call FC6.out hb2
        obtain ⟨k0_0, kf0⟩ := (G2.get 2 rfl).one
        have kz0 := (G2.get 2 rfl).lt
        obtain ⟨k1_0, k1_1, kf1, kg1⟩ := (G2.get 1 rfl).two
        have kz1 := (G2.get 1 rfl).lt
        obtain ⟨k2_0, k2_1, k2_2, k2_3⟩ := (G2.get 0 rfl).four
        have kz2 := (G2.get 0 rfl).lt
        have F2 : Hid (Fr w _ [(w.heap.size + 1 + 1, 65, #[.slice gf.A cs.length gf.c, .int .i64 fl.a, .int .i64 fl.b, .int .i64 mv]), (w.heap.size + 1, 51, #[.int .i64 p, .int .i64 len]), (w.heap.size, 49, #[.slice gt.A ls.length gt.c])]) := Lib.hid G2
        clear hb2 G2 FC6
        go_wp2_with fail
        refine (TrainErr_any ls gt.A gt.c h1 HX.out p len _ (Fr.lies HA.out F2.out)).mono ?_
        rintro e w3 ⟨rfl, hb3⟩
        rw [HN.out]
        clear k0_0 kf0 kz0 k1_0 k1_1 kf1 kg1 kz1 k2_0 k2_1 k2_2 k2_3 kz2
        have G3 := Fr.call F2.out hb3
        obtain ⟨k0_0, kf0⟩ := (G3.get 2 rfl).one
        have kz0 := (G3.get 2 rfl).lt
        obtain ⟨k1_0, k1_1, kf1, kg1⟩ := (G3.get 1 rfl).two
        have kz1 := (G3.get 1 rfl).lt
        obtain ⟨k2_0, k2_1, k2_2, k2_3⟩ := (G3.get 0 rfl).four
        have kz2 := (G3.get 0 rfl).lt
        have F3 : Hid (Fr w _ [(w.heap.size + 1 + 1, 65, #[.slice gf.A cs.length gf.c, .int .i64 fl.a, .int .i64 fl.b, .int .i64 mv]), (w.heap.size + 1, 51, #[.int .i64 p, .int .i64 len]), (w.heap.size, 49, #[.slice gt.A ls.length gt.c])]) := Lib.hid G3
        clear hb3 G3 F2
        go_wp2_with fail
        refine (FeedErr_any ls gt.A gt.c (by omega) cs gf.A gf.c (by omega) fl mv _ (Fr.lies HC.out F3.out)).mono ?_
        rintro e w4 ⟨rfl, hb4⟩
        rw [HFE.out]
        clear k0_0 kf0 kz0 k1_0 k1_1 kf1 kg1 kz1 k2_0 k2_1 k2_2 k2_3 kz2
        have G4 := Fr.call F3.out hb4
        obtain ⟨k0_0, kf0⟩ := (G4.get 2 rfl).one
        have kz0 := (G4.get 2 rfl).lt
        obtain ⟨k1_0, k1_1, kf1, kg1⟩ := (G4.get 1 rfl).two
        have kz1 := (G4.get 1 rfl).lt
        obtain ⟨k2_0, k2_1, k2_2, k2_3⟩ := (G4.get 0 rfl).four
        have kz2 := (G4.get 0 rfl).lt
        have F4 : Hid (Fr w _ [(w.heap.size + 1 + 1, 65, #[.slice gf.A cs.length gf.c, .int .i64 fl.a, .int .i64 fl.b, .int .i64 mv]), (w.heap.size + 1, 51, #[.int .i64 p, .int .i64 len]), (w.heap.size, 49, #[.slice gt.A ls.length gt.c])]) := Lib.hid G4
        clear hb4 G4 F3
        go_wp2_with fail
        go_ret
        exact ⟨rfl, F4.out.bl⟩

set_option maxHeartbeats 4000000 in
set_option maxRecDepth 100000 in
theorem ontrack_move (ls : List Int) (gt : Hd) (hg : HdOk gt) (p len : Int) (cs : List T3) (gf : Hd) (hgf : HdOk gf) (fl : T3) (mv : Int) (hl : ls.length ≤ 14) (hl2 : cs.length ≤ 14) (hmv : mv ≤ 40 ∨ 2000 < mv) (hf : Fed ls p len cs fl) (hn : trnE ls p len = 0) (hfe : feE ls cs fl = 0) (er : Int) (hm : mvE ls p len mv = er) (hr : er ≠ 0) (w : World) (hT : Tab w) (hA : Lies w w.heap.size gt.A (ic ls)) (hC : Lies w w.heap.size gf.A (cs.flatMap tc)) : Calls Tryd.prog 6 #[.agg #[.slice gt.A ls.length gt.c], .agg #[.int .i64 p, .int .i64 len], .agg #[.slice gf.A cs.length gf.c, .int .i64 fl.a, .int .i64 fl.b, .int .i64 mv]] w fun e w' => e = .returned (.bool true) ∧ Below w.heap.size w w' := by
  have F0 := Lib.hid (Fr.b3 w 49 #[.slice gt.A ls.length gt.c] 51 #[.int .i64 p, .int .i64 len] 65 #[.slice gf.A cs.length gf.c, .int .i64 fl.a, .int .i64 fl.b, .int .i64 mv])
  have T0 := Lib.hid (((hT.new (.cells #[.slice gt.A ls.length gt.c] 49)).new (.cells #[.int .i64 p, .int .i64 len] 51)).new (.cells #[.slice gf.A cs.length gf.c, .int .i64 fl.a, .int .i64 fl.b, .int .i64 mv] 65))
  clear hT
  have HA := Lib.hid hA
  have HG := Lib.hid hg
  have HC := Lib.hid hC
  have HGF := Lib.hid hgf
  clear hA hg hC hgf
  have HS : Hid (decide ((ls.length : Int) ≤ 14) = true) := Lib.hid (by simp; omega)
  have hcl : (cs.length : Int) ≤ 14 := by omega
  obtain ⟨q, hq⟩ : ∃ q, frcV ls p len cs fl = q := ⟨_, rfl⟩
  have HFO : Hid (∀ (w : World) (A : Option Addr) (c : Nat) (C : Option Addr) (d : Nat), Lies w w.heap.size A (ic ls) → Lies w w.heap.size C (cs.flatMap tc) → Calls Tryd.prog 36 #[.agg #[.slice A ls.length c], .agg #[.int .i64 p, .int .i64 len], .agg #[.slice C cs.length d, .int .i64 fl.a, .int .i64 fl.b, .int .i64 mv]] w fun e w' => e = .returned (.tuple #[.int .i64 q, .int .i64 0]) ∧ Below w.heap.size w w') := Lib.hid (fun w A c C d h1 h2 => by have := ForceAt_ok ls A c p len cs C d fl mv hf w h1 h2; rw [hq] at this; exact this)
  have HGO : Hid (∀ (w : World) (A : Option Addr) (c : Nat) (C : Option Addr) (d : Nat), Lies w w.heap.size A (ic ls) → Lies w w.heap.size C (cs.flatMap tc) → Calls Tryd.prog 38 #[.agg #[.slice A ls.length c], .agg #[.int .i64 p, .int .i64 len], .agg #[.slice C cs.length d, .int .i64 fl.a, .int .i64 fl.b, .int .i64 mv]] w fun e w' => e = .returned (.tuple #[.int .i64 0, .int .i64 er]) ∧ Below w.heap.size w w') := Lib.hid (fun w A c C d h1 h2 => GreatestStep_move ls A c p len cs C d fl mv hf er hm hr w h1 h2)
  have h1 := hf.q.n1
  have HP := Lib.hid hf.q
  have HX := Lib.hid hf.q.x
  have HT : Hid ((trkE ls).2 = 0) := Lib.hid (by rw [trkE_ok hf.q.n0 hf.q.n1 hf.q.x])
  have HN := Lib.hid hn
  have HFE := Lib.hid hfe
  have HRF : Hid (∀ (w : World) (A : Option Addr) (c : Nat) (C : Option Addr) (d : Nat), Lies w w.heap.size A (ic ls) → Lies w w.heap.size C (cs.flatMap tc) → Calls Tryd.prog 41 #[.agg #[.slice A ls.length c], .agg #[.int .i64 p, .int .i64 len], .agg #[.slice C cs.length d, .int .i64 fl.a, .int .i64 fl.b, .int .i64 mv]] w fun e w' => e = .returned (.int .i64 q) ∧ Below w.heap.size w w') := Lib.hid (fun w A c C d h1 h2 => by have := refForceAt_any ls A c p len cs C d fl mv hf w h1 h2; rw [hq] at this; exact this)
  have HME := Lib.hid hm
  have ge : (er == 0) = false := by simp [hr]
  have gn : (er != 0) = true := by simp [hr]
  clear hf hr hn hfe hm hq
  go_enter Tryd.func6, Tryd.ntmps6
  go_wp2_with fail
  refine (awake_any _ T0.out).mono ?_
  rintro e w1 ⟨rfl, hb1⟩
  have G1 := Fr.call F0.out hb1
  obtain ⟨k0_0, kf0⟩ := (G1.get 2 rfl).one
  have kz0 := (G1.get 2 rfl).lt
  obtain ⟨k1_0, k1_1, kf1, kg1⟩ := (G1.get 1 rfl).two
  have kz1 := (G1.get 1 rfl).lt
  obtain ⟨k2_0, k2_1, k2_2, k2_3⟩ := (G1.get 0 rfl).four
  have kz2 := (G1.get 0 rfl).lt
  have F1 : Hid (Fr w _ [(w.heap.size + 1 + 1, 65, #[.slice gf.A cs.length gf.c, .int .i64 fl.a, .int .i64 fl.b, .int .i64 mv]), (w.heap.size + 1, 51, #[.int .i64 p, .int .i64 len]), (w.heap.size, 49, #[.slice gt.A ls.length gt.c])]) := Lib.hid G1
  clear hb1 G1 F0
  go_upto_region 3 with fail
  go_cut [32] from 14 to 32 (fun r W => r = .bool false ∧ Fr w W [(w.heap.size + 1 + 1, 65, #[.slice gf.A cs.length gf.c, .int .i64 fl.a, .int .i64 fl.b, .int .i64 mv]), (w.heap.size + 1, 51, #[.int .i64 p, .int .i64 len]), (w.heap.size, 49, #[.slice gt.A ls.length gt.c])])
  case first =>
    clear HFO HGO
    rcases hmv with hmv | hmv
    all_goals
      go_wp2_with fail
      refine (sections_any gt.A ls.length gt.c _).mono ?_
      rintro e w9 ⟨rfl, hb9⟩
      rw [HS.out]
      have G9 := Fr.call F1.out hb9
      clear hb9
      obtain ⟨x0, x1, x2, x3⟩ := G9.top.four
      have hz9 := G9.top.lt
      go_wp2_with fail
      go_meet
      exact ⟨by first | rfl | exact congrArg Value.bool (by simp only [Bool.or_eq_false_iff, decide_eq_false_iff_not]; omega), G9⟩
  case rest =>
    obtain ⟨wx, rfl⟩ : ∃ W, W = wc := ⟨_, rfl⟩
    obtain ⟨rfl, hx⟩ := hcut
    have FC3 : Hid (Fr w _ [(w.heap.size + 1 + 1, 65, #[.slice gf.A cs.length gf.c, .int .i64 fl.a, .int .i64 fl.b, .int .i64 mv]), (w.heap.size + 1, 51, #[.int .i64 p, .int .i64 len]), (w.heap.size, 49, #[.slice gt.A ls.length gt.c])]) := Lib.hid hx
    clear k0_0 kf0 kz0 k1_0 k1_1 kf1 kg1 kz1 k2_0 k2_1 k2_2 k2_3 kz2 hx F1
    obtain ⟨k0_0, kf0⟩ := (FC3.out.get 2 rfl).one
    have kz0 := (FC3.out.get 2 rfl).lt
    obtain ⟨k1_0, k1_1, kf1, kg1⟩ := (FC3.out.get 1 rfl).two
    have kz1 := (FC3.out.get 1 rfl).lt
    obtain ⟨k2_0, k2_1, k2_2, k2_3⟩ := (FC3.out.get 0 rfl).four
    have kz2 := (FC3.out.get 0 rfl).lt
    go_upto_region 5 with fail
    go_cut [7, 8] from 33 to 41 (fun r s W => r = .int .i64 q ∧ s = .int .i64 0 ∧ Fr w W [(w.heap.size + 1 + 1, 65, #[.slice gf.A cs.length gf.c, .int .i64 fl.a, .int .i64 fl.b, .int .i64 mv]), (w.heap.size + 1, 51, #[.int .i64 p, .int .i64 len]), (w.heap.size, 49, #[.slice gt.A ls.length gt.c])])
    case first =>
      have HALL : Hid (∀ W, Fr w W [(w.heap.size + 1 + 1, 65, #[.slice gf.A cs.length gf.c, .int .i64 fl.a, .int .i64 fl.b, .int .i64 mv]), (w.heap.size + 1, 51, #[.int .i64 p, .int .i64 len]), (w.heap.size, 49, #[.slice gt.A ls.length gt.c])] → Fr w W [(w.heap.size + 1 + 1, 65, #[.slice gf.A cs.length gf.c, .int .i64 fl.a, .int .i64 fl.b, .int .i64 mv]), (w.heap.size + 1, 51, #[.int .i64 p, .int .i64 len]), (w.heap.size, 49, #[.slice gt.A ls.length gt.c])] ∧ W.cell? ⟨w.heap.size, 0, none⟩ = some (.slice gt.A ls.length gt.c) ∧ W.cell? ⟨w.heap.size + 1, 0, none⟩ = some (.int .i64 p) ∧ W.cell? ⟨w.heap.size + 1, 1, none⟩ = some (.int .i64 len) ∧ W.cell? ⟨w.heap.size + 1 + 1, 0, none⟩ = some (.slice gf.A cs.length gf.c) ∧ W.cell? ⟨w.heap.size + 1 + 1, 1, none⟩ = some (.int .i64 fl.a) ∧ W.cell? ⟨w.heap.size + 1 + 1, 2, none⟩ = some (.int .i64 fl.b) ∧ W.cell? ⟨w.heap.size + 1 + 1, 3, none⟩ = some (.int .i64 mv)) := Lib.hid (fun W hW => ⟨hW, hW.at2.cell 0, hW.at1.cell 0, hW.at1.cell 1, hW.top.cell 0, hW.top.cell 1, hW.top.cell 2, hW.top.cell 3⟩)
      have F10 : Fr w _ [(w.heap.size + 1 + 1, 65, #[.slice gf.A cs.length gf.c, .int .i64 fl.a, .int .i64 fl.b, .int .i64 mv]), (w.heap.size + 1, 51, #[.int .i64 p, .int .i64 len]), (w.heap.size, 49, #[.slice gt.A ls.length gt.c])] := FC3.out
      clear FC3
      go_region_held3 (fun W => Fr w W [(w.heap.size + 1 + 1, 65, #[.slice gf.A cs.length gf.c, .int .i64 fl.a, .int .i64 fl.b, .int .i64 mv]), (w.heap.size + 1, 51, #[.int .i64 p, .int .i64 len]), (w.heap.size, 49, #[.slice gt.A ls.length gt.c])] ∧ W.cell? ⟨w.heap.size, 0, none⟩ = some (.slice gt.A ls.length gt.c) ∧ W.cell? ⟨w.heap.size + 1, 0, none⟩ = some (.int .i64 p) ∧ W.cell? ⟨w.heap.size + 1, 1, none⟩ = some (.int .i64 len) ∧ W.cell? ⟨w.heap.size + 1 + 1, 0, none⟩ = some (.slice gf.A cs.length gf.c) ∧ W.cell? ⟨w.heap.size + 1 + 1, 1, none⟩ = some (.int .i64 fl.a) ∧ W.cell? ⟨w.heap.size + 1 + 1, 2, none⟩ = some (.int .i64 fl.b) ∧ W.cell? ⟨w.heap.size + 1 + 1, 3, none⟩ = some (.int .i64 mv))
        ((go_split_ands; refine HALL.out _ ?_; (first | assumption | (repeat (first | assumption | refine Fr.new ?_ _ | refine Fr.drew ?_ | (refine Fr.set ?_ (by first | exact Nat.le_refl _ | omega | (simp; done) | (simp; omega)) (by first | (simp; done) | (simp; omega)) _))); done)))
        ((first
          | (go_at_call 30; go_split_ands; (with_reducible refine (CopyTrack_any ls gt (by omega) HG.out _ (Fr.lies HA.out (by assumption))).mono ?_); rintro e w1 ⟨g2, rfl, hl2, hk2, hb1⟩; have HL1 := Lib.hid hl2; (first | (have HL2 := Lib.hid (Lies.call HL2.out hb1)) | skip); have F4 := Fr.call (by assumption) hb1; clear hb1 hl2 hk2)
          | (go_at_call 37; go_split_ands; (with_reducible refine (CopyFeed_any cs gf fl mv (by omega) HGF.out _ (Fr.lies HC.out (by assumption))).mono ?_); rintro e w1 ⟨g2, rfl, hl2, hk2, hb1⟩; have HL2 := Lib.hid hl2; (first | (have HL1 := Lib.hid (Lies.call HL1.out hb1)) | skip); have F4 := Fr.call (by assumption) hb1; clear hb1 hl2 hk2)
          | (go_at_call 36; go_split_ands; (with_reducible refine (HFO.out _ _ _ _ _ HL1.out HL2.out).mono ?_); rintro e w1 ⟨rfl, hb1⟩; have F5 := Fr.call (by assumption) hb1; clear hb1)
          | fail "arm"))
      all_goals
        go_split_ands
        go_wp2_with fail
        go_meet
        exact ⟨rfl, rfl, by assumption⟩
    case rest =>
      obtain ⟨wx, rfl⟩ : ∃ W, W = wc := ⟨_, rfl⟩
      obtain ⟨rfl, rfl, hx⟩ := hcut
      have FC5 : Hid (Fr w _ [(w.heap.size + 1 + 1, 65, #[.slice gf.A cs.length gf.c, .int .i64 fl.a, .int .i64 fl.b, .int .i64 mv]), (w.heap.size + 1, 51, #[.int .i64 p, .int .i64 len]), (w.heap.size, 49, #[.slice gt.A ls.length gt.c])]) := Lib.hid hx
      clear k0_0 kf0 kz0 k1_0 k1_1 kf1 kg1 kz1 k2_0 k2_1 k2_2 k2_3 kz2 hx FC3
      obtain ⟨k0_0, kf0⟩ := (FC5.out.get 2 rfl).one
      have kz0 := (FC5.out.get 2 rfl).lt
      obtain ⟨k1_0, k1_1, kf1, kg1⟩ := (FC5.out.get 1 rfl).two
      have kz1 := (FC5.out.get 1 rfl).lt
      obtain ⟨k2_0, k2_1, k2_2, k2_3⟩ := (FC5.out.get 0 rfl).four
      have kz2 := (FC5.out.get 0 rfl).lt
      go_upto_region 6 with fail
      go_cut [9, 10] from 42 to 50 (fun r s W => r = .int .i64 0 ∧ s = .int .i64 er ∧ Fr w W [(w.heap.size + 1 + 1, 65, #[.slice gf.A cs.length gf.c, .int .i64 fl.a, .int .i64 fl.b, .int .i64 mv]), (w.heap.size + 1, 51, #[.int .i64 p, .int .i64 len]), (w.heap.size, 49, #[.slice gt.A ls.length gt.c])])
      case first =>
        have HALL : Hid (∀ W, Fr w W [(w.heap.size + 1 + 1, 65, #[.slice gf.A cs.length gf.c, .int .i64 fl.a, .int .i64 fl.b, .int .i64 mv]), (w.heap.size + 1, 51, #[.int .i64 p, .int .i64 len]), (w.heap.size, 49, #[.slice gt.A ls.length gt.c])] → Fr w W [(w.heap.size + 1 + 1, 65, #[.slice gf.A cs.length gf.c, .int .i64 fl.a, .int .i64 fl.b, .int .i64 mv]), (w.heap.size + 1, 51, #[.int .i64 p, .int .i64 len]), (w.heap.size, 49, #[.slice gt.A ls.length gt.c])] ∧ W.cell? ⟨w.heap.size, 0, none⟩ = some (.slice gt.A ls.length gt.c) ∧ W.cell? ⟨w.heap.size + 1, 0, none⟩ = some (.int .i64 p) ∧ W.cell? ⟨w.heap.size + 1, 1, none⟩ = some (.int .i64 len) ∧ W.cell? ⟨w.heap.size + 1 + 1, 0, none⟩ = some (.slice gf.A cs.length gf.c) ∧ W.cell? ⟨w.heap.size + 1 + 1, 1, none⟩ = some (.int .i64 fl.a) ∧ W.cell? ⟨w.heap.size + 1 + 1, 2, none⟩ = some (.int .i64 fl.b) ∧ W.cell? ⟨w.heap.size + 1 + 1, 3, none⟩ = some (.int .i64 mv)) := Lib.hid (fun W hW => ⟨hW, hW.at2.cell 0, hW.at1.cell 0, hW.at1.cell 1, hW.top.cell 0, hW.top.cell 1, hW.top.cell 2, hW.top.cell 3⟩)
        have F10 : Fr w _ [(w.heap.size + 1 + 1, 65, #[.slice gf.A cs.length gf.c, .int .i64 fl.a, .int .i64 fl.b, .int .i64 mv]), (w.heap.size + 1, 51, #[.int .i64 p, .int .i64 len]), (w.heap.size, 49, #[.slice gt.A ls.length gt.c])] := FC5.out
        clear FC5
        go_region_held3 (fun W => Fr w W [(w.heap.size + 1 + 1, 65, #[.slice gf.A cs.length gf.c, .int .i64 fl.a, .int .i64 fl.b, .int .i64 mv]), (w.heap.size + 1, 51, #[.int .i64 p, .int .i64 len]), (w.heap.size, 49, #[.slice gt.A ls.length gt.c])] ∧ W.cell? ⟨w.heap.size, 0, none⟩ = some (.slice gt.A ls.length gt.c) ∧ W.cell? ⟨w.heap.size + 1, 0, none⟩ = some (.int .i64 p) ∧ W.cell? ⟨w.heap.size + 1, 1, none⟩ = some (.int .i64 len) ∧ W.cell? ⟨w.heap.size + 1 + 1, 0, none⟩ = some (.slice gf.A cs.length gf.c) ∧ W.cell? ⟨w.heap.size + 1 + 1, 1, none⟩ = some (.int .i64 fl.a) ∧ W.cell? ⟨w.heap.size + 1 + 1, 2, none⟩ = some (.int .i64 fl.b) ∧ W.cell? ⟨w.heap.size + 1 + 1, 3, none⟩ = some (.int .i64 mv))
          ((go_split_ands; refine HALL.out _ ?_; (first | assumption | (repeat (first | assumption | refine Fr.new ?_ _ | refine Fr.drew ?_ | (refine Fr.set ?_ (by first | exact Nat.le_refl _ | omega | (simp; done) | (simp; omega)) (by first | (simp; done) | (simp; omega)) _))); done)))
          ((first
            | (go_at_call 30; go_split_ands; (with_reducible refine (CopyTrack_any ls gt (by omega) HG.out _ (Fr.lies HA.out (by assumption))).mono ?_); rintro e w1 ⟨g2, rfl, hl2, hk2, hb1⟩; have HL1 := Lib.hid hl2; (first | (have HL2 := Lib.hid (Lies.call HL2.out hb1)) | skip); have F4 := Fr.call (by assumption) hb1; clear hb1 hl2 hk2)
            | (go_at_call 37; go_split_ands; (with_reducible refine (CopyFeed_any cs gf fl mv (by omega) HGF.out _ (Fr.lies HC.out (by assumption))).mono ?_); rintro e w1 ⟨g2, rfl, hl2, hk2, hb1⟩; have HL2 := Lib.hid hl2; (first | (have HL1 := Lib.hid (Lies.call HL1.out hb1)) | skip); have F4 := Fr.call (by assumption) hb1; clear hb1 hl2 hk2)
            | (go_at_call 38; go_split_ands; (with_reducible refine (HGO.out _ _ _ _ _ HL1.out HL2.out).mono ?_); rintro e w1 ⟨rfl, hb1⟩; have F5 := Fr.call (by assumption) hb1; clear hb1)
            | fail "arm"))
        all_goals
          go_split_ands
          go_wp2_with fail
          go_meet
          exact ⟨rfl, rfl, by assumption⟩
      case rest =>
        obtain ⟨wx, rfl⟩ : ∃ W, W = wc := ⟨_, rfl⟩
        obtain ⟨rfl, rfl, hx⟩ := hcut
        have FC6 : Hid (Fr w _ [(w.heap.size + 1 + 1, 65, #[.slice gf.A cs.length gf.c, .int .i64 fl.a, .int .i64 fl.b, .int .i64 mv]), (w.heap.size + 1, 51, #[.int .i64 p, .int .i64 len]), (w.heap.size, 49, #[.slice gt.A ls.length gt.c])]) := Lib.hid hx
        clear k0_0 kf0 kz0 k1_0 k1_1 kf1 kg1 kz1 k2_0 k2_1 k2_2 k2_3 kz2 hx FC5
        obtain ⟨k0_0, kf0⟩ := (FC6.out.get 2 rfl).one
        have kz0 := (FC6.out.get 2 rfl).lt
        obtain ⟨k1_0, k1_1, kf1, kg1⟩ := (FC6.out.get 1 rfl).two
        have kz1 := (FC6.out.get 1 rfl).lt
        obtain ⟨k2_0, k2_1, k2_2, k2_3⟩ := (FC6.out.get 0 rfl).four
        have kz2 := (FC6.out.get 0 rfl).lt
        go_wp2_with fail
        refine (TrackErr_any ls gt.A gt.c (by omega) _ (Fr.lies HA.out FC6.out)).mono ?_
        rintro e w2 ⟨rfl, hb2⟩
        rw [HT.out]
        clear k0_0 kf0 kz0 k1_0 k1_1 kf1 kg1 kz1 k2_0 k2_1 k2_2 k2_3 kz2
        have G2 := Fr.call FC6.out hb2
        obtain ⟨k0_0, kf0⟩ := (G2.get 2 rfl).one
        have kz0 := (G2.get 2 rfl).lt
        obtain ⟨k1_0, k1_1, kf1, kg1⟩ := (G2.get 1 rfl).two
        have kz1 := (G2.get 1 rfl).lt
        obtain ⟨k2_0, k2_1, k2_2, k2_3⟩ := (G2.get 0 rfl).four
        have kz2 := (G2.get 0 rfl).lt
        have F2 : Hid (Fr w _ [(w.heap.size + 1 + 1, 65, #[.slice gf.A cs.length gf.c, .int .i64 fl.a, .int .i64 fl.b, .int .i64 mv]), (w.heap.size + 1, 51, #[.int .i64 p, .int .i64 len]), (w.heap.size, 49, #[.slice gt.A ls.length gt.c])]) := Lib.hid G2
        clear hb2 G2 FC6
        go_wp2_with fail
        refine (TrainErr_any ls gt.A gt.c h1 HX.out p len _ (Fr.lies HA.out F2.out)).mono ?_
        rintro e w3 ⟨rfl, hb3⟩
        rw [HN.out]
        clear k0_0 kf0 kz0 k1_0 k1_1 kf1 kg1 kz1 k2_0 k2_1 k2_2 k2_3 kz2
        have G3 := Fr.call F2.out hb3
        obtain ⟨k0_0, kf0⟩ := (G3.get 2 rfl).one
        have kz0 := (G3.get 2 rfl).lt
        obtain ⟨k1_0, k1_1, kf1, kg1⟩ := (G3.get 1 rfl).two
        have kz1 := (G3.get 1 rfl).lt
        obtain ⟨k2_0, k2_1, k2_2, k2_3⟩ := (G3.get 0 rfl).four
        have kz2 := (G3.get 0 rfl).lt
        have F3 : Hid (Fr w _ [(w.heap.size + 1 + 1, 65, #[.slice gf.A cs.length gf.c, .int .i64 fl.a, .int .i64 fl.b, .int .i64 mv]), (w.heap.size + 1, 51, #[.int .i64 p, .int .i64 len]), (w.heap.size, 49, #[.slice gt.A ls.length gt.c])]) := Lib.hid G3
        clear hb3 G3 F2
        go_wp2_with fail
        refine (FeedErr_any ls gt.A gt.c (by omega) cs gf.A gf.c (by omega) fl mv _ (Fr.lies HC.out F3.out)).mono ?_
        rintro e w4 ⟨rfl, hb4⟩
        rw [HFE.out]
        clear k0_0 kf0 kz0 k1_0 k1_1 kf1 kg1 kz1 k2_0 k2_1 k2_2 k2_3 kz2
        have G4 := Fr.call F3.out hb4
        obtain ⟨k0_0, kf0⟩ := (G4.get 2 rfl).one
        have kz0 := (G4.get 2 rfl).lt
        obtain ⟨k1_0, k1_1, kf1, kg1⟩ := (G4.get 1 rfl).two
        have kz1 := (G4.get 1 rfl).lt
        obtain ⟨k2_0, k2_1, k2_2, k2_3⟩ := (G4.get 0 rfl).four
        have kz2 := (G4.get 0 rfl).lt
        have F4 : Hid (Fr w _ [(w.heap.size + 1 + 1, 65, #[.slice gf.A cs.length gf.c, .int .i64 fl.a, .int .i64 fl.b, .int .i64 mv]), (w.heap.size + 1, 51, #[.int .i64 p, .int .i64 len]), (w.heap.size, 49, #[.slice gt.A ls.length gt.c])]) := Lib.hid G4
        clear hb4 G4 F3
        go_wp2_with fail
        refine (HRF.out _ _ _ _ _ (Fr.lies HA.out F4.out) (Fr.lies HC.out F4.out)).mono ?_
        rintro e w5 ⟨rfl, hb5⟩
        clear k0_0 kf0 kz0 k1_0 k1_1 kf1 kg1 kz1 k2_0 k2_1 k2_2 k2_3 kz2
        have G5 := Fr.call F4.out hb5
        obtain ⟨k0_0, kf0⟩ := (G5.get 2 rfl).one
        have kz0 := (G5.get 2 rfl).lt
        obtain ⟨k1_0, k1_1, kf1, kg1⟩ := (G5.get 1 rfl).two
        have kz1 := (G5.get 1 rfl).lt
        obtain ⟨k2_0, k2_1, k2_2, k2_3⟩ := (G5.get 0 rfl).four
        have kz2 := (G5.get 0 rfl).lt
        have F5 : Hid (Fr w _ [(w.heap.size + 1 + 1, 65, #[.slice gf.A cs.length gf.c, .int .i64 fl.a, .int .i64 fl.b, .int .i64 mv]), (w.heap.size + 1, 51, #[.int .i64 p, .int .i64 len]), (w.heap.size, 49, #[.slice gt.A ls.length gt.c])]) := Lib.hid G5
        clear hb5 G5 F4
        go_wp2_with fail
        refine (MoveErr_any ls gt.A gt.c p len cs.length gf.c gf.A fl mv HP.out _ (Fr.lies HA.out F5.out)).mono ?_
        rintro e w6 ⟨rfl, hb6⟩
        rw [HME.out]
        clear k0_0 kf0 kz0 k1_0 k1_1 kf1 kg1 kz1 k2_0 k2_1 k2_2 k2_3 kz2
        have G6 := Fr.call F5.out hb6
        obtain ⟨k0_0, kf0⟩ := (G6.get 2 rfl).one
        have kz0 := (G6.get 2 rfl).lt
        obtain ⟨k1_0, k1_1, kf1, kg1⟩ := (G6.get 1 rfl).two
        have kz1 := (G6.get 1 rfl).lt
        obtain ⟨k2_0, k2_1, k2_2, k2_3⟩ := (G6.get 0 rfl).four
        have kz2 := (G6.get 0 rfl).lt
        have F6 : Hid (Fr w _ [(w.heap.size + 1 + 1, 65, #[.slice gf.A cs.length gf.c, .int .i64 fl.a, .int .i64 fl.b, .int .i64 mv]), (w.heap.size + 1, 51, #[.int .i64 p, .int .i64 len]), (w.heap.size, 49, #[.slice gt.A ls.length gt.c])]) := Lib.hid G6
        clear hb6 G6 F5
        go_wp2_with fail
        go_ret
        exact ⟨rfl, F6.out.bl⟩

set_option maxHeartbeats 4000000 in
set_option maxRecDepth 100000 in
theorem ontrack_ok (ls : List Int) (gt : Hd) (hg : HdOk gt) (p len : Int) (cs : List T3) (gf : Hd) (hgf : HdOk gf) (fl : T3) (mv : Int) (hl : ls.length ≤ 14) (hl2 : cs.length ≤ 14) (hmv : mv ≤ 40 ∨ 2000 < mv) (hf : Fed ls p len cs fl) (hn : trnE ls p len = 0) (hfe : feE ls cs fl = 0) (hm : mvE ls p len mv = 0) (w : World) (hT : Tab w) (hA : Lies w w.heap.size gt.A (ic ls)) (hC : Lies w w.heap.size gf.A (cs.flatMap tc)) : Calls Tryd.prog 6 #[.agg #[.slice gt.A ls.length gt.c], .agg #[.int .i64 p, .int .i64 len], .agg #[.slice gf.A cs.length gf.c, .int .i64 fl.a, .int .i64 fl.b, .int .i64 mv]] w fun e w' => e = .returned (.bool true) ∧ Below w.heap.size w w' := by
  have F0 := Lib.hid (Fr.b3 w 49 #[.slice gt.A ls.length gt.c] 51 #[.int .i64 p, .int .i64 len] 65 #[.slice gf.A cs.length gf.c, .int .i64 fl.a, .int .i64 fl.b, .int .i64 mv])
  have T0 := Lib.hid (((hT.new (.cells #[.slice gt.A ls.length gt.c] 49)).new (.cells #[.int .i64 p, .int .i64 len] 51)).new (.cells #[.slice gf.A cs.length gf.c, .int .i64 fl.a, .int .i64 fl.b, .int .i64 mv] 65))
  clear hT
  have HA := Lib.hid hA
  have HG := Lib.hid hg
  have HC := Lib.hid hC
  have HGF := Lib.hid hgf
  clear hA hg hC hgf
  have HS : Hid (decide ((ls.length : Int) ≤ 14) = true) := Lib.hid (by simp; omega)
  have hcl : (cs.length : Int) ≤ 14 := by omega
  obtain ⟨q, hq⟩ : ∃ q, frcV ls p len cs fl = q := ⟨_, rfl⟩
  obtain ⟨m, hg2⟩ : ∃ m, gsV (frcAt ls p len cs fl) mv.toNat = m := ⟨_, rfl⟩
  have HFO : Hid (∀ (w : World) (A : Option Addr) (c : Nat) (C : Option Addr) (d : Nat), Lies w w.heap.size A (ic ls) → Lies w w.heap.size C (cs.flatMap tc) → Calls Tryd.prog 36 #[.agg #[.slice A ls.length c], .agg #[.int .i64 p, .int .i64 len], .agg #[.slice C cs.length d, .int .i64 fl.a, .int .i64 fl.b, .int .i64 mv]] w fun e w' => e = .returned (.tuple #[.int .i64 q, .int .i64 0]) ∧ Below w.heap.size w w') := Lib.hid (fun w A c C d h1 h2 => by have := ForceAt_ok ls A c p len cs C d fl mv hf w h1 h2; rw [hq] at this; exact this)
  have HGO : Hid (∀ (w : World) (A : Option Addr) (c : Nat) (C : Option Addr) (d : Nat), Lies w w.heap.size A (ic ls) → Lies w w.heap.size C (cs.flatMap tc) → Calls Tryd.prog 38 #[.agg #[.slice A ls.length c], .agg #[.int .i64 p, .int .i64 len], .agg #[.slice C cs.length d, .int .i64 fl.a, .int .i64 fl.b, .int .i64 mv]] w fun e w' => e = .returned (.tuple #[.int .i64 m, .int .i64 0]) ∧ Below w.heap.size w w') := Lib.hid (fun w A c C d h1 h2 => by have := GreatestStep_ok ls A c p len cs C d fl mv hf hm w h1 h2; rw [hg2] at this; exact this)
  have h1 := hf.q.n1
  have HP := Lib.hid hf.q
  have HX := Lib.hid hf.q.x
  have HT : Hid ((trkE ls).2 = 0) := Lib.hid (by rw [trkE_ok hf.q.n0 hf.q.n1 hf.q.x])
  have HN := Lib.hid hn
  have HFE := Lib.hid hfe
  have HRF : Hid (∀ (w : World) (A : Option Addr) (c : Nat) (C : Option Addr) (d : Nat), Lies w w.heap.size A (ic ls) → Lies w w.heap.size C (cs.flatMap tc) → Calls Tryd.prog 41 #[.agg #[.slice A ls.length c], .agg #[.int .i64 p, .int .i64 len], .agg #[.slice C cs.length d, .int .i64 fl.a, .int .i64 fl.b, .int .i64 mv]] w fun e w' => e = .returned (.int .i64 q) ∧ Below w.heap.size w w') := Lib.hid (fun w A c C d h1 h2 => by have := refForceAt_any ls A c p len cs C d fl mv hf w h1 h2; rw [hq] at this; exact this)
  have HRG : Hid (∀ (w : World) (A : Option Addr) (c : Nat) (C : Option Addr) (d : Nat), Lies w w.heap.size A (ic ls) → Lies w w.heap.size C (cs.flatMap tc) → Calls Tryd.prog 43 #[.agg #[.slice A ls.length c], .agg #[.int .i64 p, .int .i64 len], .agg #[.slice C cs.length d, .int .i64 fl.a, .int .i64 fl.b, .int .i64 mv]] w fun e w' => e = .returned (.int .i64 m) ∧ Below w.heap.size w w') := Lib.hid (fun w A c C d h1 h2 => by have := refGreatestStep_any ls A c p len cs C d fl mv hf hm w h1 h2; rw [hg2] at this; exact this)
  have HME := Lib.hid hm
  clear hf hn hfe hm hq hg2
  go_enter Tryd.func6, Tryd.ntmps6
  go_wp2_with fail
  refine (awake_any _ T0.out).mono ?_
  rintro e w1 ⟨rfl, hb1⟩
  have G1 := Fr.call F0.out hb1
  obtain ⟨k0_0, kf0⟩ := (G1.get 2 rfl).one
  have kz0 := (G1.get 2 rfl).lt
  obtain ⟨k1_0, k1_1, kf1, kg1⟩ := (G1.get 1 rfl).two
  have kz1 := (G1.get 1 rfl).lt
  obtain ⟨k2_0, k2_1, k2_2, k2_3⟩ := (G1.get 0 rfl).four
  have kz2 := (G1.get 0 rfl).lt
  have F1 : Hid (Fr w _ [(w.heap.size + 1 + 1, 65, #[.slice gf.A cs.length gf.c, .int .i64 fl.a, .int .i64 fl.b, .int .i64 mv]), (w.heap.size + 1, 51, #[.int .i64 p, .int .i64 len]), (w.heap.size, 49, #[.slice gt.A ls.length gt.c])]) := Lib.hid G1
  clear hb1 G1 F0
  go_upto_region 3 with fail
  go_cut [32] from 14 to 32 (fun r W => r = .bool false ∧ Fr w W [(w.heap.size + 1 + 1, 65, #[.slice gf.A cs.length gf.c, .int .i64 fl.a, .int .i64 fl.b, .int .i64 mv]), (w.heap.size + 1, 51, #[.int .i64 p, .int .i64 len]), (w.heap.size, 49, #[.slice gt.A ls.length gt.c])])
  case first =>
    clear HFO HGO
    rcases hmv with hmv | hmv
    all_goals
      go_wp2_with fail
      refine (sections_any gt.A ls.length gt.c _).mono ?_
      rintro e w9 ⟨rfl, hb9⟩
      rw [HS.out]
      have G9 := Fr.call F1.out hb9
      clear hb9
      obtain ⟨x0, x1, x2, x3⟩ := G9.top.four
      have hz9 := G9.top.lt
      go_wp2_with fail
      go_meet
      exact ⟨by first | rfl | exact congrArg Value.bool (by simp only [Bool.or_eq_false_iff, decide_eq_false_iff_not]; omega), G9⟩
  case rest =>
    obtain ⟨wx, rfl⟩ : ∃ W, W = wc := ⟨_, rfl⟩
    obtain ⟨rfl, hx⟩ := hcut
    have FC3 : Hid (Fr w _ [(w.heap.size + 1 + 1, 65, #[.slice gf.A cs.length gf.c, .int .i64 fl.a, .int .i64 fl.b, .int .i64 mv]), (w.heap.size + 1, 51, #[.int .i64 p, .int .i64 len]), (w.heap.size, 49, #[.slice gt.A ls.length gt.c])]) := Lib.hid hx
    clear k0_0 kf0 kz0 k1_0 k1_1 kf1 kg1 kz1 k2_0 k2_1 k2_2 k2_3 kz2 hx F1
    obtain ⟨k0_0, kf0⟩ := (FC3.out.get 2 rfl).one
    have kz0 := (FC3.out.get 2 rfl).lt
    obtain ⟨k1_0, k1_1, kf1, kg1⟩ := (FC3.out.get 1 rfl).two
    have kz1 := (FC3.out.get 1 rfl).lt
    obtain ⟨k2_0, k2_1, k2_2, k2_3⟩ := (FC3.out.get 0 rfl).four
    have kz2 := (FC3.out.get 0 rfl).lt
    go_upto_region 5 with fail
    go_cut [7, 8] from 33 to 41 (fun r s W => r = .int .i64 q ∧ s = .int .i64 0 ∧ Fr w W [(w.heap.size + 1 + 1, 65, #[.slice gf.A cs.length gf.c, .int .i64 fl.a, .int .i64 fl.b, .int .i64 mv]), (w.heap.size + 1, 51, #[.int .i64 p, .int .i64 len]), (w.heap.size, 49, #[.slice gt.A ls.length gt.c])])
    case first =>
      have HALL : Hid (∀ W, Fr w W [(w.heap.size + 1 + 1, 65, #[.slice gf.A cs.length gf.c, .int .i64 fl.a, .int .i64 fl.b, .int .i64 mv]), (w.heap.size + 1, 51, #[.int .i64 p, .int .i64 len]), (w.heap.size, 49, #[.slice gt.A ls.length gt.c])] → Fr w W [(w.heap.size + 1 + 1, 65, #[.slice gf.A cs.length gf.c, .int .i64 fl.a, .int .i64 fl.b, .int .i64 mv]), (w.heap.size + 1, 51, #[.int .i64 p, .int .i64 len]), (w.heap.size, 49, #[.slice gt.A ls.length gt.c])] ∧ W.cell? ⟨w.heap.size, 0, none⟩ = some (.slice gt.A ls.length gt.c) ∧ W.cell? ⟨w.heap.size + 1, 0, none⟩ = some (.int .i64 p) ∧ W.cell? ⟨w.heap.size + 1, 1, none⟩ = some (.int .i64 len) ∧ W.cell? ⟨w.heap.size + 1 + 1, 0, none⟩ = some (.slice gf.A cs.length gf.c) ∧ W.cell? ⟨w.heap.size + 1 + 1, 1, none⟩ = some (.int .i64 fl.a) ∧ W.cell? ⟨w.heap.size + 1 + 1, 2, none⟩ = some (.int .i64 fl.b) ∧ W.cell? ⟨w.heap.size + 1 + 1, 3, none⟩ = some (.int .i64 mv)) := Lib.hid (fun W hW => ⟨hW, hW.at2.cell 0, hW.at1.cell 0, hW.at1.cell 1, hW.top.cell 0, hW.top.cell 1, hW.top.cell 2, hW.top.cell 3⟩)
      have F10 : Fr w _ [(w.heap.size + 1 + 1, 65, #[.slice gf.A cs.length gf.c, .int .i64 fl.a, .int .i64 fl.b, .int .i64 mv]), (w.heap.size + 1, 51, #[.int .i64 p, .int .i64 len]), (w.heap.size, 49, #[.slice gt.A ls.length gt.c])] := FC3.out
      clear FC3
      go_region_held3 (fun W => Fr w W [(w.heap.size + 1 + 1, 65, #[.slice gf.A cs.length gf.c, .int .i64 fl.a, .int .i64 fl.b, .int .i64 mv]), (w.heap.size + 1, 51, #[.int .i64 p, .int .i64 len]), (w.heap.size, 49, #[.slice gt.A ls.length gt.c])] ∧ W.cell? ⟨w.heap.size, 0, none⟩ = some (.slice gt.A ls.length gt.c) ∧ W.cell? ⟨w.heap.size + 1, 0, none⟩ = some (.int .i64 p) ∧ W.cell? ⟨w.heap.size + 1, 1, none⟩ = some (.int .i64 len) ∧ W.cell? ⟨w.heap.size + 1 + 1, 0, none⟩ = some (.slice gf.A cs.length gf.c) ∧ W.cell? ⟨w.heap.size + 1 + 1, 1, none⟩ = some (.int .i64 fl.a) ∧ W.cell? ⟨w.heap.size + 1 + 1, 2, none⟩ = some (.int .i64 fl.b) ∧ W.cell? ⟨w.heap.size + 1 + 1, 3, none⟩ = some (.int .i64 mv))
        ((go_split_ands; refine HALL.out _ ?_; (first | assumption | (repeat (first | assumption | refine Fr.new ?_ _ | refine Fr.drew ?_ | (refine Fr.set ?_ (by first | exact Nat.le_refl _ | omega | (simp; done) | (simp; omega)) (by first | (simp; done) | (simp; omega)) _))); done)))
        ((first
          | (go_at_call 30; go_split_ands; (with_reducible refine (CopyTrack_any ls gt (by omega) HG.out _ (Fr.lies HA.out (by assumption))).mono ?_); rintro e w1 ⟨g2, rfl, hl2, hk2, hb1⟩; have HL1 := Lib.hid hl2; (first | (have HL2 := Lib.hid (Lies.call HL2.out hb1)) | skip); have F4 := Fr.call (by assumption) hb1; clear hb1 hl2 hk2)
          | (go_at_call 37; go_split_ands; (with_reducible refine (CopyFeed_any cs gf fl mv (by omega) HGF.out _ (Fr.lies HC.out (by assumption))).mono ?_); rintro e w1 ⟨g2, rfl, hl2, hk2, hb1⟩; have HL2 := Lib.hid hl2; (first | (have HL1 := Lib.hid (Lies.call HL1.out hb1)) | skip); have F4 := Fr.call (by assumption) hb1; clear hb1 hl2 hk2)
          | (go_at_call 36; go_split_ands; (with_reducible refine (HFO.out _ _ _ _ _ HL1.out HL2.out).mono ?_); rintro e w1 ⟨rfl, hb1⟩; have F5 := Fr.call (by assumption) hb1; clear hb1)
          | fail "arm"))
      all_goals
        go_split_ands
        go_wp2_with fail
        go_meet
        exact ⟨rfl, rfl, by assumption⟩
    case rest =>
      obtain ⟨wx, rfl⟩ : ∃ W, W = wc := ⟨_, rfl⟩
      obtain ⟨rfl, rfl, hx⟩ := hcut
      have FC5 : Hid (Fr w _ [(w.heap.size + 1 + 1, 65, #[.slice gf.A cs.length gf.c, .int .i64 fl.a, .int .i64 fl.b, .int .i64 mv]), (w.heap.size + 1, 51, #[.int .i64 p, .int .i64 len]), (w.heap.size, 49, #[.slice gt.A ls.length gt.c])]) := Lib.hid hx
      clear k0_0 kf0 kz0 k1_0 k1_1 kf1 kg1 kz1 k2_0 k2_1 k2_2 k2_3 kz2 hx FC3
      obtain ⟨k0_0, kf0⟩ := (FC5.out.get 2 rfl).one
      have kz0 := (FC5.out.get 2 rfl).lt
      obtain ⟨k1_0, k1_1, kf1, kg1⟩ := (FC5.out.get 1 rfl).two
      have kz1 := (FC5.out.get 1 rfl).lt
      obtain ⟨k2_0, k2_1, k2_2, k2_3⟩ := (FC5.out.get 0 rfl).four
      have kz2 := (FC5.out.get 0 rfl).lt
      go_upto_region 6 with fail
      go_cut [9, 10] from 42 to 50 (fun r s W => r = .int .i64 m ∧ s = .int .i64 0 ∧ Fr w W [(w.heap.size + 1 + 1, 65, #[.slice gf.A cs.length gf.c, .int .i64 fl.a, .int .i64 fl.b, .int .i64 mv]), (w.heap.size + 1, 51, #[.int .i64 p, .int .i64 len]), (w.heap.size, 49, #[.slice gt.A ls.length gt.c])])
      case first =>
        have HALL : Hid (∀ W, Fr w W [(w.heap.size + 1 + 1, 65, #[.slice gf.A cs.length gf.c, .int .i64 fl.a, .int .i64 fl.b, .int .i64 mv]), (w.heap.size + 1, 51, #[.int .i64 p, .int .i64 len]), (w.heap.size, 49, #[.slice gt.A ls.length gt.c])] → Fr w W [(w.heap.size + 1 + 1, 65, #[.slice gf.A cs.length gf.c, .int .i64 fl.a, .int .i64 fl.b, .int .i64 mv]), (w.heap.size + 1, 51, #[.int .i64 p, .int .i64 len]), (w.heap.size, 49, #[.slice gt.A ls.length gt.c])] ∧ W.cell? ⟨w.heap.size, 0, none⟩ = some (.slice gt.A ls.length gt.c) ∧ W.cell? ⟨w.heap.size + 1, 0, none⟩ = some (.int .i64 p) ∧ W.cell? ⟨w.heap.size + 1, 1, none⟩ = some (.int .i64 len) ∧ W.cell? ⟨w.heap.size + 1 + 1, 0, none⟩ = some (.slice gf.A cs.length gf.c) ∧ W.cell? ⟨w.heap.size + 1 + 1, 1, none⟩ = some (.int .i64 fl.a) ∧ W.cell? ⟨w.heap.size + 1 + 1, 2, none⟩ = some (.int .i64 fl.b) ∧ W.cell? ⟨w.heap.size + 1 + 1, 3, none⟩ = some (.int .i64 mv)) := Lib.hid (fun W hW => ⟨hW, hW.at2.cell 0, hW.at1.cell 0, hW.at1.cell 1, hW.top.cell 0, hW.top.cell 1, hW.top.cell 2, hW.top.cell 3⟩)
        have F10 : Fr w _ [(w.heap.size + 1 + 1, 65, #[.slice gf.A cs.length gf.c, .int .i64 fl.a, .int .i64 fl.b, .int .i64 mv]), (w.heap.size + 1, 51, #[.int .i64 p, .int .i64 len]), (w.heap.size, 49, #[.slice gt.A ls.length gt.c])] := FC5.out
        clear FC5
        go_region_held3 (fun W => Fr w W [(w.heap.size + 1 + 1, 65, #[.slice gf.A cs.length gf.c, .int .i64 fl.a, .int .i64 fl.b, .int .i64 mv]), (w.heap.size + 1, 51, #[.int .i64 p, .int .i64 len]), (w.heap.size, 49, #[.slice gt.A ls.length gt.c])] ∧ W.cell? ⟨w.heap.size, 0, none⟩ = some (.slice gt.A ls.length gt.c) ∧ W.cell? ⟨w.heap.size + 1, 0, none⟩ = some (.int .i64 p) ∧ W.cell? ⟨w.heap.size + 1, 1, none⟩ = some (.int .i64 len) ∧ W.cell? ⟨w.heap.size + 1 + 1, 0, none⟩ = some (.slice gf.A cs.length gf.c) ∧ W.cell? ⟨w.heap.size + 1 + 1, 1, none⟩ = some (.int .i64 fl.a) ∧ W.cell? ⟨w.heap.size + 1 + 1, 2, none⟩ = some (.int .i64 fl.b) ∧ W.cell? ⟨w.heap.size + 1 + 1, 3, none⟩ = some (.int .i64 mv))
          ((go_split_ands; refine HALL.out _ ?_; (first | assumption | (repeat (first | assumption | refine Fr.new ?_ _ | refine Fr.drew ?_ | (refine Fr.set ?_ (by first | exact Nat.le_refl _ | omega | (simp; done) | (simp; omega)) (by first | (simp; done) | (simp; omega)) _))); done)))
          ((first
            | (go_at_call 30; go_split_ands; (with_reducible refine (CopyTrack_any ls gt (by omega) HG.out _ (Fr.lies HA.out (by assumption))).mono ?_); rintro e w1 ⟨g2, rfl, hl2, hk2, hb1⟩; have HL1 := Lib.hid hl2; (first | (have HL2 := Lib.hid (Lies.call HL2.out hb1)) | skip); have F4 := Fr.call (by assumption) hb1; clear hb1 hl2 hk2)
            | (go_at_call 37; go_split_ands; (with_reducible refine (CopyFeed_any cs gf fl mv (by omega) HGF.out _ (Fr.lies HC.out (by assumption))).mono ?_); rintro e w1 ⟨g2, rfl, hl2, hk2, hb1⟩; have HL2 := Lib.hid hl2; (first | (have HL1 := Lib.hid (Lies.call HL1.out hb1)) | skip); have F4 := Fr.call (by assumption) hb1; clear hb1 hl2 hk2)
            | (go_at_call 38; go_split_ands; (with_reducible refine (HGO.out _ _ _ _ _ HL1.out HL2.out).mono ?_); rintro e w1 ⟨rfl, hb1⟩; have F5 := Fr.call (by assumption) hb1; clear hb1)
            | fail "arm"))
        all_goals
          go_split_ands
          go_wp2_with fail
          go_meet
          exact ⟨rfl, rfl, by assumption⟩
      case rest =>
        obtain ⟨wx, rfl⟩ : ∃ W, W = wc := ⟨_, rfl⟩
        obtain ⟨rfl, rfl, hx⟩ := hcut
        have FC6 : Hid (Fr w _ [(w.heap.size + 1 + 1, 65, #[.slice gf.A cs.length gf.c, .int .i64 fl.a, .int .i64 fl.b, .int .i64 mv]), (w.heap.size + 1, 51, #[.int .i64 p, .int .i64 len]), (w.heap.size, 49, #[.slice gt.A ls.length gt.c])]) := Lib.hid hx
        clear k0_0 kf0 kz0 k1_0 k1_1 kf1 kg1 kz1 k2_0 k2_1 k2_2 k2_3 kz2 hx FC5
        obtain ⟨k0_0, kf0⟩ := (FC6.out.get 2 rfl).one
        have kz0 := (FC6.out.get 2 rfl).lt
        obtain ⟨k1_0, k1_1, kf1, kg1⟩ := (FC6.out.get 1 rfl).two
        have kz1 := (FC6.out.get 1 rfl).lt
        obtain ⟨k2_0, k2_1, k2_2, k2_3⟩ := (FC6.out.get 0 rfl).four
        have kz2 := (FC6.out.get 0 rfl).lt
        go_wp2_with fail
        refine (TrackErr_any ls gt.A gt.c (by omega) _ (Fr.lies HA.out FC6.out)).mono ?_
        rintro e w2 ⟨rfl, hb2⟩
        rw [HT.out]
        clear k0_0 kf0 kz0 k1_0 k1_1 kf1 kg1 kz1 k2_0 k2_1 k2_2 k2_3 kz2
        have G2 := Fr.call FC6.out hb2
        obtain ⟨k0_0, kf0⟩ := (G2.get 2 rfl).one
        have kz0 := (G2.get 2 rfl).lt
        obtain ⟨k1_0, k1_1, kf1, kg1⟩ := (G2.get 1 rfl).two
        have kz1 := (G2.get 1 rfl).lt
        obtain ⟨k2_0, k2_1, k2_2, k2_3⟩ := (G2.get 0 rfl).four
        have kz2 := (G2.get 0 rfl).lt
        have F2 : Hid (Fr w _ [(w.heap.size + 1 + 1, 65, #[.slice gf.A cs.length gf.c, .int .i64 fl.a, .int .i64 fl.b, .int .i64 mv]), (w.heap.size + 1, 51, #[.int .i64 p, .int .i64 len]), (w.heap.size, 49, #[.slice gt.A ls.length gt.c])]) := Lib.hid G2
        clear hb2 G2 FC6
        go_wp2_with fail
        refine (TrainErr_any ls gt.A gt.c h1 HX.out p len _ (Fr.lies HA.out F2.out)).mono ?_
        rintro e w3 ⟨rfl, hb3⟩
        rw [HN.out]
        clear k0_0 kf0 kz0 k1_0 k1_1 kf1 kg1 kz1 k2_0 k2_1 k2_2 k2_3 kz2
        have G3 := Fr.call F2.out hb3
        obtain ⟨k0_0, kf0⟩ := (G3.get 2 rfl).one
        have kz0 := (G3.get 2 rfl).lt
        obtain ⟨k1_0, k1_1, kf1, kg1⟩ := (G3.get 1 rfl).two
        have kz1 := (G3.get 1 rfl).lt
        obtain ⟨k2_0, k2_1, k2_2, k2_3⟩ := (G3.get 0 rfl).four
        have kz2 := (G3.get 0 rfl).lt
        have F3 : Hid (Fr w _ [(w.heap.size + 1 + 1, 65, #[.slice gf.A cs.length gf.c, .int .i64 fl.a, .int .i64 fl.b, .int .i64 mv]), (w.heap.size + 1, 51, #[.int .i64 p, .int .i64 len]), (w.heap.size, 49, #[.slice gt.A ls.length gt.c])]) := Lib.hid G3
        clear hb3 G3 F2
        go_wp2_with fail
        refine (FeedErr_any ls gt.A gt.c (by omega) cs gf.A gf.c (by omega) fl mv _ (Fr.lies HC.out F3.out)).mono ?_
        rintro e w4 ⟨rfl, hb4⟩
        rw [HFE.out]
        clear k0_0 kf0 kz0 k1_0 k1_1 kf1 kg1 kz1 k2_0 k2_1 k2_2 k2_3 kz2
        have G4 := Fr.call F3.out hb4
        obtain ⟨k0_0, kf0⟩ := (G4.get 2 rfl).one
        have kz0 := (G4.get 2 rfl).lt
        obtain ⟨k1_0, k1_1, kf1, kg1⟩ := (G4.get 1 rfl).two
        have kz1 := (G4.get 1 rfl).lt
        obtain ⟨k2_0, k2_1, k2_2, k2_3⟩ := (G4.get 0 rfl).four
        have kz2 := (G4.get 0 rfl).lt
        have F4 : Hid (Fr w _ [(w.heap.size + 1 + 1, 65, #[.slice gf.A cs.length gf.c, .int .i64 fl.a, .int .i64 fl.b, .int .i64 mv]), (w.heap.size + 1, 51, #[.int .i64 p, .int .i64 len]), (w.heap.size, 49, #[.slice gt.A ls.length gt.c])]) := Lib.hid G4
        clear hb4 G4 F3
        go_wp2_with fail
        refine (HRF.out _ _ _ _ _ (Fr.lies HA.out F4.out) (Fr.lies HC.out F4.out)).mono ?_
        rintro e w5 ⟨rfl, hb5⟩
        clear k0_0 kf0 kz0 k1_0 k1_1 kf1 kg1 kz1 k2_0 k2_1 k2_2 k2_3 kz2
        have G5 := Fr.call F4.out hb5
        obtain ⟨k0_0, kf0⟩ := (G5.get 2 rfl).one
        have kz0 := (G5.get 2 rfl).lt
        obtain ⟨k1_0, k1_1, kf1, kg1⟩ := (G5.get 1 rfl).two
        have kz1 := (G5.get 1 rfl).lt
        obtain ⟨k2_0, k2_1, k2_2, k2_3⟩ := (G5.get 0 rfl).four
        have kz2 := (G5.get 0 rfl).lt
        have F5 : Hid (Fr w _ [(w.heap.size + 1 + 1, 65, #[.slice gf.A cs.length gf.c, .int .i64 fl.a, .int .i64 fl.b, .int .i64 mv]), (w.heap.size + 1, 51, #[.int .i64 p, .int .i64 len]), (w.heap.size, 49, #[.slice gt.A ls.length gt.c])]) := Lib.hid G5
        clear hb5 G5 F4
        go_wp2_with fail
        refine (MoveErr_any ls gt.A gt.c p len cs.length gf.c gf.A fl mv HP.out _ (Fr.lies HA.out F5.out)).mono ?_
        rintro e w6 ⟨rfl, hb6⟩
        rw [HME.out]
        clear k0_0 kf0 kz0 k1_0 k1_1 kf1 kg1 kz1 k2_0 k2_1 k2_2 k2_3 kz2
        have G6 := Fr.call F5.out hb6
        obtain ⟨k0_0, kf0⟩ := (G6.get 2 rfl).one
        have kz0 := (G6.get 2 rfl).lt
        obtain ⟨k1_0, k1_1, kf1, kg1⟩ := (G6.get 1 rfl).two
        have kz1 := (G6.get 1 rfl).lt
        obtain ⟨k2_0, k2_1, k2_2, k2_3⟩ := (G6.get 0 rfl).four
        have kz2 := (G6.get 0 rfl).lt
        have F6 : Hid (Fr w _ [(w.heap.size + 1 + 1, 65, #[.slice gf.A cs.length gf.c, .int .i64 fl.a, .int .i64 fl.b, .int .i64 mv]), (w.heap.size + 1, 51, #[.int .i64 p, .int .i64 len]), (w.heap.size, 49, #[.slice gt.A ls.length gt.c])]) := Lib.hid G6
        clear hb6 G6 F5
        go_wp2_with fail
        refine (HRG.out _ _ _ _ _ (Fr.lies HA.out F6.out) (Fr.lies HC.out F6.out)).mono ?_
        rintro e w7 ⟨rfl, hb7⟩
        clear k0_0 kf0 kz0 k1_0 k1_1 kf1 kg1 kz1 k2_0 k2_1 k2_2 k2_3 kz2
        have G7 := Fr.call F6.out hb7
        obtain ⟨k0_0, kf0⟩ := (G7.get 2 rfl).one
        have kz0 := (G7.get 2 rfl).lt
        obtain ⟨k1_0, k1_1, kf1, kg1⟩ := (G7.get 1 rfl).two
        have kz1 := (G7.get 1 rfl).lt
        obtain ⟨k2_0, k2_1, k2_2, k2_3⟩ := (G7.get 0 rfl).four
        have kz2 := (G7.get 0 rfl).lt
        have F7 : Hid (Fr w _ [(w.heap.size + 1 + 1, 65, #[.slice gf.A cs.length gf.c, .int .i64 fl.a, .int .i64 fl.b, .int .i64 mv]), (w.heap.size + 1, 51, #[.int .i64 p, .int .i64 len]), (w.heap.size, 49, #[.slice gt.A ls.length gt.c])]) := Lib.hid G7
        clear hb7 G7 F6
        go_wp2_with fail
        go_ret
        exact ⟨rfl, F7.out.bl⟩

set_option maxHeartbeats 4000000 in
set_option maxRecDepth 100000 in
theorem StatorOnTrack_any (ls : List Int) (gt : Hd) (hg : HdOk gt) (hm : ls.length ≤ maxLen) (_ho : ∀ y ∈ ls, I64 y) (p len : Int) (_ip : I64 p) (_il : I64 len) (cs : List T3) (gf : Hd) (hgf : HdOk gf) (hm2 : cs.length ≤ maxLen) (fl : T3) (mv : Int) (_im : I64 mv) (w : World) (hT : Tab w) (hA : Lies w w.heap.size gt.A (ic ls)) (hC : Lies w w.heap.size gf.A (cs.flatMap tc)) : Calls Tryd.prog 6 #[.agg #[.slice gt.A ls.length gt.c], .agg #[.int .i64 p, .int .i64 len], .agg #[.slice gf.A cs.length gf.c, .int .i64 fl.a, .int .i64 fl.b, .int .i64 mv]] w fun e w' => e = .returned (.bool true) ∧ Below w.heap.size w w' := by
  by_cases hl : ls.length ≤ 14
  · by_cases hl2 : cs.length ≤ 14
    · by_cases hmv : mv ≤ 40 ∨ 2000 < mv
      · rcases trk_cases ls with ⟨ht, h0, h1, hx⟩ | hr
        · by_cases hn : trnE ls p len = 0
          · by_cases hfe : feE ls cs fl = 0
            · have hf : Fed ls p len cs fl := fed_of (by rw [fed_fe (by rw [plc_trn (by rw [ht]), hn]), hfe])
              by_cases hmo : mvE ls p len mv = 0
              · exact ontrack_ok ls gt hg p len cs gf hgf fl mv hl hl2 hmv hf hn hfe hmo w hT hA hC
              · exact ontrack_move ls gt hg p len cs gf hgf fl mv hl hl2 hmv hf hn hfe _ rfl hmo w hT hA hC
            · exact ontrack_feed ls gt hg p len cs gf hgf fl mv hl hl2 hmv ht h1 hx hn _ rfl hfe w hT hA hC
          · exact ontrack_train ls gt hg p len cs gf hgf fl mv hl hl2 hmv ht h1 hx _ rfl hn w hT hA hC
        · exact ontrack_track ls gt hg p len cs gf hgf fl mv hl hl2 hmv _ rfl hr w hT hA hC
      · exact ontrack_far ls gt hg p len cs gf hgf fl mv hl hl2 (by omega) (by omega) w hT hA hC
    · exact ontrack_many ls gt hg p len cs gf hgf fl mv hl hl2 hm2 w hT hA hC
  · exact ontrack_long ls gt hg p len cs gf hgf fl mv hl hm w hT hA hC
end Go.Proofs.YtemjefhfplaibaaDoor
