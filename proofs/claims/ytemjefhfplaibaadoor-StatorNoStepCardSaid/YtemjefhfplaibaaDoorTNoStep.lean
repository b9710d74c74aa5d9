
/-
  The walk of StatorNoStep.
-/
import Derived.Test.YtemjefhfplaibaaDoorTNsP
namespace Go.Proofs.YtemjefhfplaibaaDoor
open Go.RowKit

set_option maxHeartbeats 4000000 in
set_option maxRecDepth 100000 in
theorem nostep_long (ls : List Int) (gt : Hd) (hg : HdOk gt) (p len : Int) (cs : List T3) (gf : Hd) (hgf : HdOk gf) (fl : T3) (mv : Int) (hl : ¬ ls.length ≤ 14) (hm : ls.length ≤ maxLen) (w : World) (hT : Tab w) (hA : Lies w w.heap.size gt.A (ic ls)) (hC : Lies w w.heap.size gf.A (cs.flatMap tc)) : Calls Tryd.prog 7 #[.agg #[.slice gt.A ls.length gt.c], .agg #[.int .i64 p, .int .i64 len], .agg #[.slice gf.A cs.length gf.c, .int .i64 fl.a, .int .i64 fl.b, .int .i64 mv]] w fun e w' => e = .returned (.bool true) ∧ Below w.heap.size w w' := by
  have F0 := Lib.hid (Fr.b3 w 49 #[.slice gt.A ls.length gt.c] 51 #[.int .i64 p, .int .i64 len] 65 #[.slice gf.A cs.length gf.c, .int .i64 fl.a, .int .i64 fl.b, .int .i64 mv])
  have T0 := Lib.hid (((hT.new (.cells #[.slice gt.A ls.length gt.c] 49)).new (.cells #[.int .i64 p, .int .i64 len] 51)).new (.cells #[.slice gf.A cs.length gf.c, .int .i64 fl.a, .int .i64 fl.b, .int .i64 mv] 65))
  clear hT
  have HA := Lib.hid hA
  have HG := Lib.hid hg
  have HC := Lib.hid hC
  have HGF := Lib.hid hgf
  clear hA hg hC hgf
  have HS : Hid (decide ((ls.length : Int) ≤ 14) = false) := Lib.hid (by simp; omega)
  clear hl hm
  go_enter Tryd.func7, Tryd.ntmps7
  go_wp2_with fail
  refine (awake_any _ T0.out).mono ?_
  rintro e w1 ⟨rfl, hb1⟩
  have G1 := Fr.call F0.out hb1
  obtain ⟨k0_0, kf0⟩ := (G1.get 2 rfl).one
  have kz0 := (G1.get 2 rfl).lt
  obtain ⟨k1_0, k1_1, kf1, kg1⟩ := (G1.get 1 rfl).two
  have kz1 := (G1.get 1 rfl).lt
  obtain ⟨k2_0, k2_1, k2_2, k2_3⟩ := (G1.get 0 rfl).four
  have kz2 := (G1.get 0 rfl).lt
  have F1 : Hid (Fr w _ [(w.heap.size + 1 + 1, 65, #[.slice gf.A cs.length gf.c, .int .i64 fl.a, .int .i64 fl.b, .int .i64 mv]), (w.heap.size + 1, 51, #[.int .i64 p, .int .i64 len]), (w.heap.size, 49, #[.slice gt.A ls.length gt.c])]) := Lib.hid G1
  clear hb1 G1 F0
  go_wp2_with fail
  refine (sections_any gt.A ls.length gt.c _).mono ?_
  rintro e w2 ⟨rfl, hb2⟩
  rw [HS.out]
  clear k0_0 kf0 kz0 k1_0 k1_1 kf1 kg1 kz1 k2_0 k2_1 k2_2 k2_3 kz2
  have G2 := Fr.call F1.out hb2
  obtain ⟨k0_0, kf0⟩ := (G2.get 2 rfl).one
  have kz0 := (G2.get 2 rfl).lt
  obtain ⟨k1_0, k1_1, kf1, kg1⟩ := (G2.get 1 rfl).two
  have kz1 := (G2.get 1 rfl).lt
  obtain ⟨k2_0, k2_1, k2_2, k2_3⟩ := (G2.get 0 rfl).four
  have kz2 := (G2.get 0 rfl).lt
  have F2 : Hid (Fr w _ [(w.heap.size + 1 + 1, 65, #[.slice gf.A cs.length gf.c, .int .i64 fl.a, .int .i64 fl.b, .int .i64 mv]), (w.heap.size + 1, 51, #[.int .i64 p, .int .i64 len]), (w.heap.size, 49, #[.slice gt.A ls.length gt.c])]) := Lib.hid G2
  clear hb2 G2 F1
  go_wp2_with fail
  go_ret
  exact ⟨rfl, F2.out.bl⟩

set_option maxHeartbeats 4000000 in
set_option maxRecDepth 100000 in
theorem nostep_track (ls : List Int) (gt : Hd) (hg : HdOk gt) (p len : Int) (cs : List T3) (gf : Hd) (hgf : HdOk gf) (fl : T3) (mv : Int) (hl : ls.length ≤ 14) (er : Int) (ht : (trkE ls).2 = er) (hr : er ≠ 0) (w : World) (hT : Tab w) (hA : Lies w w.heap.size gt.A (ic ls)) (hC : Lies w w.heap.size gf.A (cs.flatMap tc)) : Calls Tryd.prog 7 #[.agg #[.slice gt.A ls.length gt.c], .agg #[.int .i64 p, .int .i64 len], .agg #[.slice gf.A cs.length gf.c, .int .i64 fl.a, .int .i64 fl.b, .int .i64 mv]] w fun e w' => e = .returned (.bool true) ∧ Below w.heap.size w w' := by
  have F0 := Lib.hid (Fr.b3 w 49 #[.slice gt.A ls.length gt.c] 51 #[.int .i64 p, .int .i64 len] 65 #[.slice gf.A cs.length gf.c, .int .i64 fl.a, .int .i64 fl.b, .int .i64 mv])
  have T0 := Lib.hid (((hT.new (.cells #[.slice gt.A ls.length gt.c] 49)).new (.cells #[.int .i64 p, .int .i64 len] 51)).new (.cells #[.slice gf.A cs.length gf.c, .int .i64 fl.a, .int .i64 fl.b, .int .i64 mv] 65))
  clear hT
  have HA := Lib.hid hA
  have HG := Lib.hid hg
  have HC := Lib.hid hC
  have HGF := Lib.hid hgf
  clear hA hg hC hgf
  have HS : Hid (decide ((ls.length : Int) ≤ 14) = true) := Lib.hid (by simp; omega)
  have HT := Lib.hid ht
  have gn : (er != 0) = true := by simp [hr]
  clear ht hr
  go_enter Tryd.func7, Tryd.ntmps7
  go_wp2_with fail
  refine (awake_any _ T0.out).mono ?_
  rintro e w1 ⟨rfl, hb1⟩
  have G1 := Fr.call F0.out hb1
  obtain ⟨k0_0, kf0⟩ := (G1.get 2 rfl).one
  have kz0 := (G1.get 2 rfl).lt
  obtain ⟨k1_0, k1_1, kf1, kg1⟩ := (G1.get 1 rfl).two
  have kz1 := (G1.get 1 rfl).lt
  obtain ⟨k2_0, k2_1, k2_2, k2_3⟩ := (G1.get 0 rfl).four
  have kz2 := (G1.get 0 rfl).lt
  have F1 : Hid (Fr w _ [(w.heap.size + 1 + 1, 65, #[.slice gf.A cs.length gf.c, .int .i64 fl.a, .int .i64 fl.b, .int .i64 mv]), (w.heap.size + 1, 51, #[.int .i64 p, .int .i64 len]), (w.heap.size, 49, #[.slice gt.A ls.length gt.c])]) := Lib.hid G1
  clear hb1 G1 F0
  go_wp2_with fail
  refine (sections_any gt.A ls.length gt.c _).mono ?_
  rintro e w2 ⟨rfl, hb2⟩
  rw [HS.out]
  clear k0_0 kf0 kz0 k1_0 k1_1 kf1 kg1 kz1 k2_0 k2_1 k2_2 k2_3 kz2
  have G2 := Fr.call F1.out hb2
  obtain ⟨k0_0, kf0⟩ := (G2.get 2 rfl).one
  have kz0 := (G2.get 2 rfl).lt
  obtain ⟨k1_0, k1_1, kf1, kg1⟩ := (G2.get 1 rfl).two
  have kz1 := (G2.get 1 rfl).lt
  obtain ⟨k2_0, k2_1, k2_2, k2_3⟩ := (G2.get 0 rfl).four
  have kz2 := (G2.get 0 rfl).lt
  have F2 : Hid (Fr w _ [(w.heap.size + 1 + 1, 65, #[.slice gf.A cs.length gf.c, .int .i64 fl.a, .int .i64 fl.b, .int .i64 mv]), (w.heap.size + 1, 51, #[.int .i64 p, .int .i64 len]), (w.heap.size, 49, #[.slice gt.A ls.length gt.c])]) := Lib.hid G2
  clear hb2 G2 F1
  go_wp2_with fail
  refine (TrackErr_any ls gt.A gt.c (by omega) _ (Fr.lies HA.out F2.out)).mono ?_
  rintro e w3 ⟨rfl, hb3⟩
  rw [HT.out]
  clear k0_0 kf0 kz0 k1_0 k1_1 kf1 kg1 kz1 k2_0 k2_1 k2_2 k2_3 kz2
  have G3 := Fr.call F2.out hb3
  obtain ⟨k0_0, kf0⟩ := (G3.get 2 rfl).one
  have kz0 := (G3.get 2 rfl).lt
  obtain ⟨k1_0, k1_1, kf1, kg1⟩ := (G3.get 1 rfl).two
  have kz1 := (G3.get 1 rfl).lt
  obtain ⟨k2_0, k2_1, k2_2, k2_3⟩ := (G3.get 0 rfl).four
  have kz2 := (G3.get 0 rfl).lt
  have F3 : Hid (Fr w _ [(w.heap.size + 1 + 1, 65, #[.slice gf.A cs.length gf.c, .int .i64 fl.a, .int .i64 fl.b, .int .i64 mv]), (w.heap.size + 1, 51, #[.int .i64 p, .int .i64 len]), (w.heap.size, 49, #[.slice gt.A ls.length gt.c])]) := Lib.hid G3
  clear hb3 G3 F2
  go_wp2_with fail
  go_ret
  exact ⟨rfl, F3.out.bl⟩

set_option maxHeartbeats 4000000 in
set_option maxRecDepth 100000 in
theorem nostep_train (ls : List Int) (gt : Hd) (hg : HdOk gt) (p len : Int) (cs : List T3) (gf : Hd) (hgf : HdOk gf) (fl : T3) (mv : Int) (hl : ls.length ≤ 14) (ht : trkE ls = (0, 0)) (h1 : ls.length ≤ 12) (hx : ∀ x ∈ ls, inB x 1 1000000 = true) (er : Int) (hn : trnE ls p len = er) (hr : er ≠ 0) (w : World) (hT : Tab w) (hA : Lies w w.heap.size gt.A (ic ls)) (hC : Lies w w.heap.size gf.A (cs.flatMap tc)) : Calls Tryd.prog 7 #[.agg #[.slice gt.A ls.length gt.c], .agg #[.int .i64 p, .int .i64 len], .agg #[.slice gf.A cs.length gf.c, .int .i64 fl.a, .int .i64 fl.b, .int .i64 mv]] w fun e w' => e = .returned (.bool true) ∧ Below w.heap.size w w' := by
  have F0 := Lib.hid (Fr.b3 w 49 #[.slice gt.A ls.length gt.c] 51 #[.int .i64 p, .int .i64 len] 65 #[.slice gf.A cs.length gf.c, .int .i64 fl.a, .int .i64 fl.b, .int .i64 mv])
  have T0 := Lib.hid (((hT.new (.cells #[.slice gt.A ls.length gt.c] 49)).new (.cells #[.int .i64 p, .int .i64 len] 51)).new (.cells #[.slice gf.A cs.length gf.c, .int .i64 fl.a, .int .i64 fl.b, .int .i64 mv] 65))
  clear hT
  have HA := Lib.hid hA
  have HG := Lib.hid hg
  have HC := Lib.hid hC
  have HGF := Lib.hid hgf
  clear hA hg hC hgf
  have HS : Hid (decide ((ls.length : Int) ≤ 14) = true) := Lib.hid (by simp; omega)
  have HT : Hid ((trkE ls).2 = 0) := Lib.hid (by rw [ht])
  have HX := Lib.hid hx
  have HN := Lib.hid hn
  have gn : (er != 0) = true := by simp [hr]
  clear ht hx hn hr
  go_enter Tryd.func7, Tryd.ntmps7
  go_wp2_with fail
  refine (awake_any _ T0.out).mono ?_
  rintro e w1 ⟨rfl, hb1⟩
  have G1 := Fr.call F0.out hb1
  obtain ⟨k0_0, kf0⟩ := (G1.get 2 rfl).one
  have kz0 := (G1.get 2 rfl).lt
  obtain ⟨k1_0, k1_1, kf1, kg1⟩ := (G1.get 1 rfl).two
  have kz1 := (G1.get 1 rfl).lt
  obtain ⟨k2_0, k2_1, k2_2, k2_3⟩ := (G1.get 0 rfl).four
  have kz2 := (G1.get 0 rfl).lt
  have F1 : Hid (Fr w _ [(w.heap.size + 1 + 1, 65, #[.slice gf.A cs.length gf.c, .int .i64 fl.a, .int .i64 fl.b, .int .i64 mv]), (w.heap.size + 1, 51, #[.int .i64 p, .int .i64 len]), (w.heap.size, 49, #[.slice gt.A ls.length gt.c])]) := Lib.hid G1
  clear hb1 G1 F0
  go_wp2_with fail
  refine (sections_any gt.A ls.length gt.c _).mono ?_
  rintro e w2 ⟨rfl, hb2⟩
  rw [HS.out]
  clear k0_0 kf0 kz0 k1_0 k1_1 kf1 kg1 kz1 k2_0 k2_1 k2_2 k2_3 kz2
  have G2 := Fr.call F1.out hb2
  obtain ⟨k0_0, kf0⟩ := (G2.get 2 rfl).one
  have kz0 := (G2.get 2 rfl).lt
  obtain ⟨k1_0, k1_1, kf1, kg1⟩ := (G2.get 1 rfl).two
  have kz1 := (G2.get 1 rfl).lt
  obtain ⟨k2_0, k2_1, k2_2, k2_3⟩ := (G2.get 0 rfl).four
  have kz2 := (G2.get 0 rfl).lt
  have F2 : Hid (Fr w _ [(w.heap.size + 1 + 1, 65, #[.slice gf.A cs.length gf.c, .int .i64 fl.a, .int .i64 fl.b, .int .i64 mv]), (w.heap.size + 1, 51, #[.int .i64 p, .int .i64 len]), (w.heap.size, 49, #[.slice gt.A ls.length gt.c])]) := Lib.hid G2
  clear hb2 G2 F1
  go_wp2_with fail
  refine (TrackErr_any ls gt.A gt.c (by omega) _ (Fr.lies HA.out F2.out)).mono ?_
  rintro e w3 ⟨rfl, hb3⟩
  rw [HT.out]
  clear k0_0 kf0 kz0 k1_0 k1_1 kf1 kg1 kz1 k2_0 k2_1 k2_2 k2_3 kz2
  have G3 := Fr.call F2.out hb3
  obtain ⟨k0_0, kf0⟩ := (G3.get 2 rfl).one
  have kz0 := (G3.get 2 rfl).lt
  obtain ⟨k1_0, k1_1, kf1, kg1⟩ := (G3.get 1 rfl).two
  have kz1 := (G3.get 1 rfl).lt
  obtain ⟨k2_0, k2_1, k2_2, k2_3⟩ := (G3.get 0 rfl).four
  have kz2 := (G3.get 0 rfl).lt
  have F3 : Hid (Fr w _ [(w.heap.size + 1 + 1, 65, #[.slice gf.A cs.length gf.c, .int .i64 fl.a, .int .i64 fl.b, .int .i64 mv]), (w.heap.size + 1, 51, #[.int .i64 p, .int .i64 len]), (w.heap.size, 49, #[.slice gt.A ls.length gt.c])]) := Lib.hid G3
  clear hb3 G3 F2
  go_wp2_with fail
  refine (TrainErr_any ls gt.A gt.c h1 HX.out p len _ (Fr.lies HA.out F3.out)).mono ?_
  rintro e w4 ⟨rfl, hb4⟩
  rw [HN.out]
  clear k0_0 kf0 kz0 k1_0 k1_1 kf1 kg1 kz1 k2_0 k2_1 k2_2 k2_3 kz2
  have G4 := Fr.call F3.out hb4
  obtain ⟨k0_0, kf0⟩ := (G4.get 2 rfl).one
  have kz0 := (G4.get 2 rfl).lt
  obtain ⟨k1_0, k1_1, kf1, kg1⟩ := (G4.get 1 rfl).two
  have kz1 := (G4.get 1 rfl).lt
  obtain ⟨k2_0, k2_1, k2_2, k2_3⟩ := (G4.get 0 rfl).four
  have kz2 := (G4.get 0 rfl).lt
  have F4 : Hid (Fr w _ [(w.heap.size + 1 + 1, 65, #[.slice gf.A cs.length gf.c, .int .i64 fl.a, .int .i64 fl.b, .int .i64 mv]), (w.heap.size + 1, 51, #[.int .i64 p, .int .i64 len]), (w.heap.size, 49, #[.slice gt.A ls.length gt.c])]) := Lib.hid G4
  clear hb4 G4 F3
  go_wp2_with fail
  go_ret
  exact ⟨rfl, F4.out.bl⟩

set_option maxHeartbeats 4000000 in
set_option maxRecDepth 100000 in
theorem nostep_many (ls : List Int) (gt : Hd) (hg : HdOk gt) (p len : Int) (cs : List T3) (gf : Hd) (hgf : HdOk gf) (fl : T3) (mv : Int) (hl : ls.length ≤ 14) (ht : trkE ls = (0, 0)) (h1 : ls.length ≤ 12) (hx : ∀ x ∈ ls, inB x 1 1000000 = true) (hn : trnE ls p len = 0) (hl2 : ¬ cs.length ≤ 14) (hm : cs.length ≤ maxLen) (w : World) (hT : Tab w) (hA : Lies w w.heap.size gt.A (ic ls)) (hC : Lies w w.heap.size gf.A (cs.flatMap tc)) : Calls Tryd.prog 7 #[.agg #[.slice gt.A ls.length gt.c], .agg #[.int .i64 p, .int .i64 len], .agg #[.slice gf.A cs.length gf.c, .int .i64 fl.a, .int .i64 fl.b, .int .i64 mv]] w fun e w' => e = .returned (.bool true) ∧ Below w.heap.size w w' := by
  have F0 := Lib.hid (Fr.b3 w 49 #[.slice gt.A ls.length gt.c] 51 #[.int .i64 p, .int .i64 len] 65 #[.slice gf.A cs.length gf.c, .int .i64 fl.a, .int .i64 fl.b, .int .i64 mv])
  have T0 := Lib.hid (((hT.new (.cells #[.slice gt.A ls.length gt.c] 49)).new (.cells #[.int .i64 p, .int .i64 len] 51)).new (.cells #[.slice gf.A cs.length gf.c, .int .i64 fl.a, .int .i64 fl.b, .int .i64 mv] 65))
  clear hT
  have HA := Lib.hid hA
  have HG := Lib.hid hg
  have HC := Lib.hid hC
  have HGF := Lib.hid hgf
  clear hA hg hC hgf
  have HS : Hid (decide ((ls.length : Int) ≤ 14) = true) := Lib.hid (by simp; omega)
  have HT : Hid ((trkE ls).2 = 0) := Lib.hid (by rw [ht])
  have HX := Lib.hid hx
  have HN := Lib.hid hn
  have gl : (14 : Int) < cs.length := by omega
  clear ht hx hn hl2 hm
  go_enter Tryd.func7, Tryd.ntmps7
  go_wp2_with fail
  refine (awake_any _ T0.out).mono ?_
  rintro e w1 ⟨rfl, hb1⟩
  have G1 := Fr.call F0.out hb1
  obtain ⟨k0_0, kf0⟩ := (G1.get 2 rfl).one
  have kz0 := (G1.get 2 rfl).lt
  obtain ⟨k1_0, k1_1, kf1, kg1⟩ := (G1.get 1 rfl).two
  have kz1 := (G1.get 1 rfl).lt
  obtain ⟨k2_0, k2_1, k2_2, k2_3⟩ := (G1.get 0 rfl).four
  have kz2 := (G1.get 0 rfl).lt
  have F1 : Hid (Fr w _ [(w.heap.size + 1 + 1, 65, #[.slice gf.A cs.length gf.c, .int .i64 fl.a, .int .i64 fl.b, .int .i64 mv]), (w.heap.size + 1, 51, #[.int .i64 p, .int .i64 len]), (w.heap.size, 49, #[.slice gt.A ls.length gt.c])]) := Lib.hid G1
  clear hb1 G1 F0
  go_wp2_with fail
  refine (sections_any gt.A ls.length gt.c _).mono ?_
  rintro e w2 ⟨rfl, hb2⟩
  rw [HS.out]
  clear k0_0 kf0 kz0 k1_0 k1_1 kf1 kg1 kz1 k2_0 k2_1 k2_2 k2_3 kz2
  have G2 := Fr.call F1.out hb2
  obtain ⟨k0_0, kf0⟩ := (G2.get 2 rfl).one
  have kz0 := (G2.get 2 rfl).lt
  obtain ⟨k1_0, k1_1, kf1, kg1⟩ := (G2.get 1 rfl).two
  have kz1 := (G2.get 1 rfl).lt
  obtain ⟨k2_0, k2_1, k2_2, k2_3⟩ := (G2.get 0 rfl).four
  have kz2 := (G2.get 0 rfl).lt
  have F2 : Hid (Fr w _ [(w.heap.size + 1 + 1, 65, #[.slice gf.A cs.length gf.c, .int .i64 fl.a, .int .i64 fl.b, .int .i64 mv]), (w.heap.size + 1, 51, #[.int .i64 p, .int .i64 len]), (w.heap.size, 49, #[.slice gt.A ls.length gt.c])]) := Lib.hid G2
  clear hb2 G2 F1
  go_wp2_with fail
  refine (TrackErr_any ls gt.A gt.c (by omega) _ (Fr.lies HA.out F2.out)).mono ?_
  rintro e w3 ⟨rfl, hb3⟩
  rw [HT.out]
  clear k0_0 kf0 kz0 k1_0 k1_1 kf1 kg1 kz1 k2_0 k2_1 k2_2 k2_3 kz2
  have G3 := Fr.call F2.out hb3
  obtain ⟨k0_0, kf0⟩ := (G3.get 2 rfl).one
  have kz0 := (G3.get 2 rfl).lt
  obtain ⟨k1_0, k1_1, kf1, kg1⟩ := (G3.get 1 rfl).two
  have kz1 := (G3.get 1 rfl).lt
  obtain ⟨k2_0, k2_1, k2_2, k2_3⟩ := (G3.get 0 rfl).four
  have kz2 := (G3.get 0 rfl).lt
  have F3 : Hid (Fr w _ [(w.heap.size + 1 + 1, 65, #[.slice gf.A cs.length gf.c, .int .i64 fl.a, .int .i64 fl.b, .int .i64 mv]), (w.heap.size + 1, 51, #[.int .i64 p, .int .i64 len]), (w.heap.size, 49, #[.slice gt.A ls.length gt.c])]) := Lib.hid G3
  clear hb3 G3 F2
  go_wp2_with fail
  refine (TrainErr_any ls gt.A gt.c h1 HX.out p len _ (Fr.lies HA.out F3.out)).mono ?_
  rintro e w4 ⟨rfl, hb4⟩
  rw [HN.out]
  clear k0_0 kf0 kz0 k1_0 k1_1 kf1 kg1 kz1 k2_0 k2_1 k2_2 k2_3 kz2
  have G4 := Fr.call F3.out hb4
  obtain ⟨k0_0, kf0⟩ := (G4.get 2 rfl).one
  have kz0 := (G4.get 2 rfl).lt
  obtain ⟨k1_0, k1_1, kf1, kg1⟩ := (G4.get 1 rfl).two
  have kz1 := (G4.get 1 rfl).lt
  obtain ⟨k2_0, k2_1, k2_2, k2_3⟩ := (G4.get 0 rfl).four
  have kz2 := (G4.get 0 rfl).lt
  have F4 : Hid (Fr w _ [(w.heap.size + 1 + 1, 65, #[.slice gf.A cs.length gf.c, .int .i64 fl.a, .int .i64 fl.b, .int .i64 mv]), (w.heap.size + 1, 51, #[.int .i64 p, .int .i64 len]), (w.heap.size, 49, #[.slice gt.A ls.length gt.c])]) := Lib.hid G4
  clear hb4 G4 F3
  go_wp2_with fail
  go_ret
  exact ⟨rfl, F4.out.bl⟩

set_option maxHeartbeats 4000000 in
set_option maxRecDepth 100000 in
theorem nostep_feed (ls : List Int) (gt : Hd) (hg : HdOk gt) (p len : Int) (cs : List T3) (gf : Hd) (hgf : HdOk gf) (fl : T3) (mv : Int) (hl : ls.length ≤ 14) (ht : trkE ls = (0, 0)) (h1 : ls.length ≤ 12) (hx : ∀ x ∈ ls, inB x 1 1000000 = true) (hn : trnE ls p len = 0) (hl2 : cs.length ≤ 14) (er : Int) (hf : feE ls cs fl = er) (hr : er ≠ 0) (w : World) (hT : Tab w) (hA : Lies w w.heap.size gt.A (ic ls)) (hC : Lies w w.heap.size gf.A (cs.flatMap tc)) : Calls Tryd.prog 7 #[.agg #[.slice gt.A ls.length gt.c], .agg #[.int .i64 p, .int .i64 len], .agg #[.slice gf.A cs.length gf.c, .int .i64 fl.a, .int .i64 fl.b, .int .i64 mv]] w fun e w' => e = .returned (.bool true) ∧ Below w.heap.size w w' := by
  have F0 := Lib.hid (Fr.b3 w 49 #[.slice gt.A ls.length gt.c] 51 #[.int .i64 p, .int .i64 len] 65 #[.slice gf.A cs.length gf.c, .int .i64 fl.a, .int .i64 fl.b, .int .i64 mv])
  have T0 := Lib.hid (((hT.new (.cells #[.slice gt.A ls.length gt.c] 49)).new (.cells #[.int .i64 p, .int .i64 len] 51)).new (.cells #[.slice gf.A cs.length gf.c, .int .i64 fl.a, .int .i64 fl.b, .int .i64 mv] 65))
  clear hT
  have HA := Lib.hid hA
  have HG := Lib.hid hg
  have HC := Lib.hid hC
  have HGF := Lib.hid hgf
  clear hA hg hC hgf
  have HS : Hid (decide ((ls.length : Int) ≤ 14) = true) := Lib.hid (by simp; omega)
  have HT : Hid ((trkE ls).2 = 0) := Lib.hid (by rw [ht])
  have HX := Lib.hid hx
  have HN := Lib.hid hn
  have HFE := Lib.hid hf
  have gl : ¬ (14 : Int) < cs.length := by omega
  have gn : (er != 0) = true := by simp [hr]
  clear ht hx hn hf hr
  go_enter Tryd.func7, Tryd.ntmps7
  go_wp2_with fail
  refine (awake_any _ T0.out).mono ?_
  rintro e w1 ⟨rfl, hb1⟩
  have G1 := Fr.call F0.out hb1
  obtain ⟨k0_0, kf0⟩ := (G1.get 2 rfl).one
  have kz0 := (G1.get 2 rfl).lt
  obtain ⟨k1_0, k1_1, kf1, kg1⟩ := (G1.get 1 rfl).two
  have kz1 := (G1.get 1 rfl).lt
  obtain ⟨k2_0, k2_1, k2_2, k2_3⟩ := (G1.get 0 rfl).four
  have kz2 := (G1.get 0 rfl).lt
  have F1 : Hid (Fr w _ [(w.heap.size + 1 + 1, 65, #[.slice gf.A cs.length gf.c, .int .i64 fl.a, .int .i64 fl.b, .int .i64 mv]), (w.heap.size + 1, 51, #[.int .i64 p, .int .i64 len]), (w.heap.size, 49, #[.slice gt.A ls.length gt.c])]) := Lib.hid G1
  clear hb1 G1 F0
  go_wp2_with fail
  refine (sections_any gt.A ls.length gt.c _).mono ?_
  rintro e w2 ⟨rfl, hb2⟩
  rw [HS.out]
  clear k0_0 kf0 kz0 k1_0 k1_1 kf1 kg1 kz1 k2_0 k2_1 k2_2 k2_3 kz2
  have G2 := Fr.call F1.out hb2
  obtain ⟨k0_0, kf0⟩ := (G2.get 2 rfl).one
  have kz0 := (G2.get 2 rfl).lt
  obtain ⟨k1_0, k1_1, kf1, kg1⟩ := (G2.get 1 rfl).two
  have kz1 := (G2.get 1 rfl).lt
  obtain ⟨k2_0, k2_1, k2_2, k2_3⟩ := (G2.get 0 rfl).four
  have kz2 := (G2.get 0 rfl).lt
  have F2 : Hid (Fr w _ [(w.heap.size + 1 + 1, 65, #[.slice gf.A cs.length gf.c, .int .i64 fl.a, .int .i64 fl.b, .int .i64 mv]), (w.heap.size + 1, 51, #[.int .i64 p, .int .i64 len]), (w.heap.size, 49, #[.slice gt.A ls.length gt.c])]) := Lib.hid G2
  clear hb2 G2 F1
  go_wp2_with fail
  refine (TrackErr_any ls gt.A gt.c (by omega) _ (Fr.lies HA.out F2.out)).mono ?_
  rintro e w3 ⟨rfl, hb3⟩
  rw [HT.out]
  clear k0_0 kf0 kz0 k1_0 k1_1 kf1 kg1 kz1 k2_0 k2_1 k2_2 k2_3 kz2
  have G3 := Fr.call F2.out hb3
  obtain ⟨k0_0, kf0⟩ := (G3.get 2 rfl).one
  have kz0 := (G3.get 2 rfl).lt
  obtain ⟨k1_0, k1_1, kf1, kg1⟩ := (G3.get 1 rfl).two
  have kz1 := (G3.get 1 rfl).lt
  obtain ⟨k2_0, k2_1, k2_2, k2_3⟩ := (G3.get 0 rfl).four
  have kz2 := (G3.get 0 rfl).lt
  have F3 : Hid (Fr w _ [(w.heap.size + 1 + 1, 65, #[.slice gf.A cs.length gf.c, .int .i64 fl.a, .int .i64 fl.b, .int .i64 mv]), (w.heap.size + 1, 51, #[.int .i64 p, .int .i64 len]), (w.heap.size, 49, #[.slice gt.A ls.length gt.c])]) := Lib.hid G3
  clear hb3 G3 F2
  go_wp2_with fail
  refine (TrainErr_any ls gt.A gt.c h1 HX.out p len _ (Fr.lies HA.out F3.out)).mono ?_
  rintro e w4 ⟨rfl, hb4⟩
  rw [HN.out]
  clear k0_0 kf0 kz0 k1_0 k1_1 kf1 kg1 kz1 k2_0 k2_1 k2_2 k2_3 kz2
  have G4 := Fr.call F3.out hb4
  obtain ⟨k0_0, kf0⟩ := (G4.get 2 rfl).one
  have kz0 := (G4.get 2 rfl).lt
  obtain ⟨k1_0, k1_1, kf1, kg1⟩ := (G4.get 1 rfl).two
  have kz1 := (G4.get 1 rfl).lt
  obtain ⟨k2_0, k2_1, k2_2, k2_3⟩ := (G4.get 0 rfl).four
  have kz2 := (G4.get 0 rfl).lt
  have F4 : Hid (Fr w _ [(w.heap.size + 1 + 1, 65, #[.slice gf.A cs.length gf.c, .int .i64 fl.a, .int .i64 fl.b, .int .i64 mv]), (w.heap.size + 1, 51, #[.int .i64 p, .int .i64 len]), (w.heap.size, 49, #[.slice gt.A ls.length gt.c])]) := Lib.hid G4
  clear hb4 G4 F3
  go_wp2_with fail
  refine (FeedErr_any ls gt.A gt.c (by omega) cs gf.A gf.c (by omega) fl mv _ (Fr.lies HC.out F4.out)).mono ?_
  rintro e w5 ⟨rfl, hb5⟩
  rw [HFE.out]
  clear k0_0 kf0 kz0 k1_0 k1_1 kf1 kg1 kz1 k2_0 k2_1 k2_2 k2_3 kz2
  have G5 := Fr.call F4.out hb5
  obtain ⟨k0_0, kf0⟩ := (G5.get 2 rfl).one
  have kz0 := (G5.get 2 rfl).lt
  obtain ⟨k1_0, k1_1, kf1, kg1⟩ := (G5.get 1 rfl).two
  have kz1 := (G5.get 1 rfl).lt
  obtain ⟨k2_0, k2_1, k2_2, k2_3⟩ := (G5.get 0 rfl).four
  have kz2 := (G5.get 0 rfl).lt
  have F5 : Hid (Fr w _ [(w.heap.size + 1 + 1, 65, #[.slice gf.A cs.length gf.c, .int .i64 fl.a, .int .i64 fl.b, .int .i64 mv]), (w.heap.size + 1, 51, #[.int .i64 p, .int .i64 len]), (w.heap.size, 49, #[.slice gt.A ls.length gt.c])]) := Lib.hid G5
  clear hb5 G5 F4
  go_wp2_with fail
  go_ret
  exact ⟨rfl, F5.out.bl⟩

set_option maxHeartbeats 4000000 in
set_option maxRecDepth 100000 in
theorem nostep_far (ls : List Int) (gt : Hd) (hg : HdOk gt) (p len : Int) (cs : List T3) (gf : Hd) (hgf : HdOk gf) (fl : T3) (mv : Int) (hl : ls.length ≤ 14) (ht : trkE ls = (0, 0)) (h1 : ls.length ≤ 12) (hx : ∀ x ∈ ls, inB x 1 1000000 = true) (hn : trnE ls p len = 0) (hl2 : cs.length ≤ 14) (hf : feE ls cs fl = 0) (h40 : 40 < mv) (w : World) (hT : Tab w) (hA : Lies w w.heap.size gt.A (ic ls)) (hC : Lies w w.heap.size gf.A (cs.flatMap tc)) : Calls Tryd.prog 7 #[.agg #[.slice gt.A ls.length gt.c], .agg #[.int .i64 p, .int .i64 len], .agg #[.slice gf.A cs.length gf.c, .int .i64 fl.a, .int .i64 fl.b, .int .i64 mv]] w fun e w' => e = .returned (.bool true) ∧ Below w.heap.size w w' := by
  have F0 := Lib.hid (Fr.b3 w 49 #[.slice gt.A ls.length gt.c] 51 #[.int .i64 p, .int .i64 len] 65 #[.slice gf.A cs.length gf.c, .int .i64 fl.a, .int .i64 fl.b, .int .i64 mv])
  have T0 := Lib.hid (((hT.new (.cells #[.slice gt.A ls.length gt.c] 49)).new (.cells #[.int .i64 p, .int .i64 len] 51)).new (.cells #[.slice gf.A cs.length gf.c, .int .i64 fl.a, .int .i64 fl.b, .int .i64 mv] 65))
  clear hT
  have HA := Lib.hid hA
  have HG := Lib.hid hg
  have HC := Lib.hid hC
  have HGF := Lib.hid hgf
  clear hA hg hC hgf
  have HS : Hid (decide ((ls.length : Int) ≤ 14) = true) := Lib.hid (by simp; omega)
  have HT : Hid ((trkE ls).2 = 0) := Lib.hid (by rw [ht])
  have HX := Lib.hid hx
  have HN := Lib.hid hn
  have HFE := Lib.hid hf
  have gl : ¬ (14 : Int) < cs.length := by omega
  clear ht hx hn hf
  go_enter Tryd.func7, Tryd.ntmps7
  go_wp2_with fail
  refine (awake_any _ T0.out).mono ?_
  rintro e w1 ⟨rfl, hb1⟩
  have G1 := Fr.call F0.out hb1
  obtain ⟨k0_0, kf0⟩ := (G1.get 2 rfl).one
  have kz0 := (G1.get 2 rfl).lt
  obtain ⟨k1_0, k1_1, kf1, kg1⟩ := (G1.get 1 rfl).two
  have kz1 := (G1.get 1 rfl).lt
  obtain ⟨k2_0, k2_1, k2_2, k2_3⟩ := (G1.get 0 rfl).four
  have kz2 := (G1.get 0 rfl).lt
  have F1 : Hid (Fr w _ [(w.heap.size + 1 + 1, 65, #[.slice gf.A cs.length gf.c, .int .i64 fl.a, .int .i64 fl.b, .int .i64 mv]), (w.heap.size + 1, 51, #[.int .i64 p, .int .i64 len]), (w.heap.size, 49, #[.slice gt.A ls.length gt.c])]) := Lib.hid G1
  clear hb1 G1 F0
  go_wp2_with fail
  refine (sections_any gt.A ls.length gt.c _).mono ?_
  rintro e w2 ⟨rfl, hb2⟩
  rw [HS.out]
  clear k0_0 kf0 kz0 k1_0 k1_1 kf1 kg1 kz1 k2_0 k2_1 k2_2 k2_3 kz2
  have G2 := Fr.call F1.out hb2
  obtain ⟨k0_0, kf0⟩ := (G2.get 2 rfl).one
  have kz0 := (G2.get 2 rfl).lt
  obtain ⟨k1_0, k1_1, kf1, kg1⟩ := (G2.get 1 rfl).two
  have kz1 := (G2.get 1 rfl).lt
  obtain ⟨k2_0, k2_1, k2_2, k2_3⟩ := (G2.get 0 rfl).four
  have kz2 := (G2.get 0 rfl).lt
  have F2 : Hid (Fr w _ [(w.heap.size + 1 + 1, 65, #[.slice gf.A cs.length gf.c, .int .i64 fl.a, .int .i64 fl.b, .int .i64 mv]), (w.heap.size + 1, 51, #[.int .i64 p, .int .i64 len]), (w.heap.size, 49, #[.slice gt.A ls.length gt.c])]) := Lib.hid G2
  clear hb2 G2 F1
  go_wp2_with fail
  refine (TrackErr_any ls gt.A gt.c (by omega) _ (Fr.lies HA.out F2.out)).mono ?_
  rintro e w3 ⟨rfl, hb3⟩
  rw [HT.out]
  clear k0_0 kf0 kz0 k1_0 k1_1 kf1 kg1 kz1 k2_0 k2_1 k2_2 k2_3 kz2
  have G3 := Fr.call F2.out hb3
  obtain ⟨k0_0, kf0⟩ := (G3.get 2 rfl).one
  have kz0 := (G3.get 2 rfl).lt
  obtain ⟨k1_0, k1_1, kf1, kg1⟩ := (G3.get 1 rfl).two
  have kz1 := (G3.get 1 rfl).lt
  obtain ⟨k2_0, k2_1, k2_2, k2_3⟩ := (G3.get 0 rfl).four
  have kz2 := (G3.get 0 rfl).lt
  have F3 : Hid (Fr w _ [(w.heap.size + 1 + 1, 65, #[.slice gf.A cs.length gf.c, .int .i64 fl.a, .int .i64 fl.b, .int .i64 mv]), (w.heap.size + 1, 51, #[.int .i64 p, .int .i64 len]), (w.heap.size, 49, #[.slice gt.A ls.length gt.c])]) := Lib.hid G3
  clear hb3 G3 F2
  go_wp2_with fail
  refine (TrainErr_any ls gt.A gt.c h1 HX.out p len _ (Fr.lies HA.out F3.out)).mono ?_
  rintro e w4 ⟨rfl, hb4⟩
  rw [HN.out]
  clear k0_0 kf0 kz0 k1_0 k1_1 kf1 kg1 kz1 k2_0 k2_1 k2_2 k2_3 kz2
  have G4 := Fr.call F3.out hb4
  obtain ⟨k0_0, kf0⟩ := (G4.get 2 rfl).one
  have kz0 := (G4.get 2 rfl).lt
  obtain ⟨k1_0, k1_1, kf1, kg1⟩ := (G4.get 1 rfl).two
  have kz1 := (G4.get 1 rfl).lt
  obtain ⟨k2_0, k2_1, k2_2, k2_3⟩ := (G4.get 0 rfl).four
  have kz2 := (G4.get 0 rfl).lt
  have F4 : Hid (Fr w _ [(w.heap.size + 1 + 1, 65, #[.slice gf.A cs.length gf.c, .int .i64 fl.a, .int .i64 fl.b, .int .i64 mv]), (w.heap.size + 1, 51, #[.int .i64 p, .int .i64 len]), (w.heap.size, 49, #[.slice gt.A ls.length gt.c])]) := Lib.hid G4
  clear hb4 G4 F3
  go_wp2_with fail
  refine (FeedErr_any ls gt.A gt.c (by omega) cs gf.A gf.c (by omega) fl mv _ (Fr.lies HC.out F4.out)).mono ?_
  rintro e w5 ⟨rfl, hb5⟩
  rw [HFE.out]
  clear k0_0 kf0 kz0 k1_0 k1_1 kf1 kg1 kz1 k2_0 k2_1 k2_2 k2_3 kz2
  have G5 := Fr.call F4.out hb5
  obtain ⟨k0_0, kf0⟩ := (G5.get 2 rfl).one
  have kz0 := (G5.get 2 rfl).lt
  obtain ⟨k1_0, k1_1, kf1, kg1⟩ := (G5.get 1 rfl).two
  have kz1 := (G5.get 1 rfl).lt
  obtain ⟨k2_0, k2_1, k2_2, k2_3⟩ := (G5.get 0 rfl).four
  have kz2 := (G5.get 0 rfl).lt
  have F5 : Hid (Fr w _ [(w.heap.size + 1 + 1, 65, #[.slice gf.A cs.length gf.c, .int .i64 fl.a, .int .i64 fl.b, .int .i64 mv]), (w.heap.size + 1, 51, #[.int .i64 p, .int .i64 len]), (w.heap.size, 49, #[.slice gt.A ls.length gt.c])]) := Lib.hid G5
  clear hb5 G5 F4
  go_wp2_with fail
  go_ret
  exact ⟨rfl, F5.out.bl⟩

set_option maxHeartbeats 4000000 in
set_option maxRecDepth 100000 in
theorem nostep_move (ls : List Int) (gt : Hd) (hg : HdOk gt) (p len : Int) (cs : List T3) (gf : Hd) (hgf : HdOk gf) (fl : T3) (mv : Int) (hl : ls.length ≤ 14) (hl2 : cs.length ≤ 14) (hn : trnE ls p len = 0) (hfe : feE ls cs fl = 0) (hf : Fed ls p len cs fl) (h40 : ¬ 40 < mv) (er : Int) (hm : mvE ls p len mv = er) (hr : er ≠ 0) (w : World) (hT : Tab w) (hA : Lies w w.heap.size gt.A (ic ls)) (hC : Lies w w.heap.size gf.A (cs.flatMap tc)) : Calls Tryd.prog 7 #[.agg #[.slice gt.A ls.length gt.c], .agg #[.int .i64 p, .int .i64 len], .agg #[.slice gf.A cs.length gf.c, .int .i64 fl.a, .int .i64 fl.b, .int .i64 mv]] w fun e w' => e = .returned (.bool true) ∧ Below w.heap.size w w' := by
  have F0 := Lib.hid (Fr.b3 w 49 #[.slice gt.A ls.length gt.c] 51 #[.int .i64 p, .int .i64 len] 65 #[.slice gf.A cs.length gf.c, .int .i64 fl.a, .int .i64 fl.b, .int .i64 mv])
  have T0 := Lib.hid (((hT.new (.cells #[.slice gt.A ls.length gt.c] 49)).new (.cells #[.int .i64 p, .int .i64 len] 51)).new (.cells #[.slice gf.A cs.length gf.c, .int .i64 fl.a, .int .i64 fl.b, .int .i64 mv] 65))
  clear hT
  have HA := Lib.hid hA
  have HG := Lib.hid hg
  have HC := Lib.hid hC
  have HGF := Lib.hid hgf
  clear hA hg hC hgf
  have HS : Hid (decide ((ls.length : Int) ≤ 14) = true) := Lib.hid (by simp; omega)
  have h1 := hf.q.n1
  have HP := Lib.hid hf.q
  have HX := Lib.hid hf.q.x
  have HT : Hid ((trkE ls).2 = 0) := Lib.hid (by rw [trkE_ok hf.q.n0 hf.q.n1 hf.q.x])
  have HN := Lib.hid hn
  have HFE := Lib.hid hfe
  have gl : ¬ (14 : Int) < cs.length := by omega
  have HME := Lib.hid hm
  have gn : (er != 0) = true := by simp [hr]
  clear hf hn hfe hm hr
  go_enter Tryd.func7, Tryd.ntmps7
  go_wp2_with fail
  refine (awake_any _ T0.out).mono ?_
  rintro e w1 ⟨rfl, hb1⟩
  have G1 := Fr.call F0.out hb1
  obtain ⟨k0_0, kf0⟩ := (G1.get 2 rfl).one
  have kz0 := (G1.get 2 rfl).lt
  obtain ⟨k1_0, k1_1, kf1, kg1⟩ := (G1.get 1 rfl).two
  have kz1 := (G1.get 1 rfl).lt
  obtain ⟨k2_0, k2_1, k2_2, k2_3⟩ := (G1.get 0 rfl).four
  have kz2 := (G1.get 0 rfl).lt
  have F1 : Hid (Fr w _ [(w.heap.size + 1 + 1, 65, #[.slice gf.A cs.length gf.c, .int .i64 fl.a, .int .i64 fl.b, .int .i64 mv]), (w.heap.size + 1, 51, #[.int .i64 p, .int .i64 len]), (w.heap.size, 49, #[.slice gt.A ls.length gt.c])]) := Lib.hid G1
  clear hb1 G1 F0
  go_wp2_with fail
  refine (sections_any gt.A ls.length gt.c _).mono ?_
  rintro e w2 ⟨rfl, hb2⟩
  rw [HS.out]
  clear k0_0 kf0 kz0 k1_0 k1_1 kf1 kg1 kz1 k2_0 k2_1 k2_2 k2_3 kz2
  have G2 := Fr.call F1.out hb2
  obtain ⟨k0_0, kf0⟩ := (G2.get 2 rfl).one
  have kz0 := (G2.get 2 rfl).lt
  obtain ⟨k1_0, k1_1, kf1, kg1⟩ := (G2.get 1 rfl).two
  have kz1 := (G2.get 1 rfl).lt
  obtain ⟨k2_0, k2_1, k2_2, k2_3⟩ := (G2.get 0 rfl).four
  have kz2 := (G2.get 0 rfl).lt
  have F2 : Hid (Fr w _ [(w.heap.size + 1 + 1, 65, #[.slice gf.A cs.length gf.c, .int .i64 fl.a, .int .i64 fl.b, .int .i64 mv]), (w.heap.size + 1, 51, #[.int .i64 p, .int .i64 len]), (w.heap.size, 49, #[.slice gt.A ls.length gt.c])]) := Lib.hid G2
  clear hb2 G2 F1
  go_wp2_with fail
  refine (TrackErr_any ls gt.A gt.c (by omega) _ (Fr.lies HA.out F2.out)).mono ?_
  rintro e w3 ⟨rfl, hb3⟩
  rw [HT.out]
  clear k0_0 kf0 kz0 k1_0 k1_1 kf1 kg1 kz1 k2_0 k2_1 k2_2 k2_3 kz2
  have G3 := Fr.call F2.out hb3
  obtain ⟨k0_0, kf0⟩ := (G3.get 2 rfl).one
  have kz0 := (G3.get 2 rfl).lt
  obtain ⟨k1_0, k1_1, kf1, kg1⟩ := (G3.get 1 rfl).two
  have kz1 := (G3.get 1 rfl).lt
  obtain ⟨k2_0, k2_1, k2_2, k2_3⟩ := (G3.get 0 rfl).four
  have kz2 := (G3.get 0 rfl).lt
  have F3 : Hid (Fr w _ [(w.heap.size + 1 + 1, 65, #[.slice gf.A cs.length gf.c, .int .i64 fl.a, .int .i64 fl.b, .int .i64 mv]), (w.heap.size + 1, 51, #[.int .i64 p, .int .i64 len]), (w.heap.size, 49, #[.slice gt.A ls.length gt.c])]) := Lib.hid G3
  clear hb3 G3 F2
  go_wp2_with fail
  refine (TrainErr_any ls gt.A gt.c h1 HX.out p len _ (Fr.lies HA.out F3.out)).mono ?_
  rintro e w4 ⟨rfl, hb4⟩
  rw [HN.out]
  clear k0_0 kf0 kz0 k1_0 k1_1 kf1 kg1 kz1 k2_0 k2_1 k2_2 k2_3 kz2
  have G4 := Fr.call F3.out hb4
  obtain ⟨k0_0, kf0⟩ := (G4.get 2 rfl).one
  have kz0 := (G4.get 2 rfl).lt
  obtain ⟨k1_0, k1_1, kf1, kg1⟩ := (G4.get 1 rfl).two
  have kz1 := (G4.get 1 rfl).lt
  obtain ⟨k2_0, k2_1, k2_2, k2_3⟩ := (G4.get 0 rfl).four
  have kz2 := (G4.get 0 rfl).lt
  have F4 : Hid (Fr w _ [(w.heap.size + 1 + 1, 65, #[.slice gf.A cs.length gf.c, .int .i64 fl.a, .int .i64 fl.b, .int .i64 mv]), (w.heap.size + 1, 51, #[.int .i64 p, .int .i64 len]), (w.heap.size, 49, #[.slice gt.A ls.length gt.c])]) := Lib.hid G4
  clear hb4 G4 F3
  go_wp2_with fail
  refine (FeedErr_any ls gt.A gt.c (by omega) cs gf.A gf.c (by omega) fl mv _ (Fr.lies HC.out F4.out)).mono ?_
  rintro e w5 ⟨rfl, hb5⟩
  rw [HFE.out]
  clear k0_0 kf0 kz0 k1_0 k1_1 kf1 kg1 kz1 k2_0 k2_1 k2_2 k2_3 kz2
  have G5 := Fr.call F4.out hb5
  obtain ⟨k0_0, kf0⟩ := (G5.get 2 rfl).one
  have kz0 := (G5.get 2 rfl).lt
  obtain ⟨k1_0, k1_1, kf1, kg1⟩ := (G5.get 1 rfl).two
  have kz1 := (G5.get 1 rfl).lt
  obtain ⟨k2_0, k2_1, k2_2, k2_3⟩ := (G5.get 0 rfl).four
  have kz2 := (G5.get 0 rfl).lt
  have F5 : Hid (Fr w _ [(w.heap.size + 1 + 1, 65, #[.slice gf.A cs.length gf.c, .int .i64 fl.a, .int .i64 fl.b, .int .i64 mv]), (w.heap.size + 1, 51, #[.int .i64 p, .int .i64 len]), (w.heap.size, 49, #[.slice gt.A ls.length gt.c])]) := Lib.hid G5
  clear hb5 G5 F4
  go_wp2_with fail
  refine (MoveErr_any ls gt.A gt.c p len cs.length gf.c gf.A fl mv HP.out _ (Fr.lies HA.out F5.out)).mono ?_
  rintro e w6 ⟨rfl, hb6⟩
  rw [HME.out]
  clear k0_0 kf0 kz0 k1_0 k1_1 kf1 kg1 kz1 k2_0 k2_1 k2_2 k2_3 kz2
  have G6 := Fr.call F5.out hb6
  obtain ⟨k0_0, kf0⟩ := (G6.get 2 rfl).one
  have kz0 := (G6.get 2 rfl).lt
  obtain ⟨k1_0, k1_1, kf1, kg1⟩ := (G6.get 1 rfl).two
  have kz1 := (G6.get 1 rfl).lt
  obtain ⟨k2_0, k2_1, k2_2, k2_3⟩ := (G6.get 0 rfl).four
  have kz2 := (G6.get 0 rfl).lt
  have F6 : Hid (Fr w _ [(w.heap.size + 1 + 1, 65, #[.slice gf.A cs.length gf.c, .int .i64 fl.a, .int .i64 fl.b, .int .i64 mv]), (w.heap.size + 1, 51, #[.int .i64 p, .int .i64 len]), (w.heap.size, 49, #[.slice gt.A ls.length gt.c])]) := Lib.hid G6
  clear hb6 G6 F5
  go_wp2_with fail
  go_ret
  exact ⟨rfl, F6.out.bl⟩

set_option maxHeartbeats 4000000 in
set_option maxRecDepth 100000 in
theorem nostep_ok (ls : List Int) (gt : Hd) (hg : HdOk gt) (p len : Int) (cs : List T3) (ad : Addr) (gfc : Nat) (hgf : HdOk ⟨some ad, gfc⟩) (fl : T3) (mv : Int) (hl : ls.length ≤ 14) (hl2 : cs.length ≤ 14) (hn : trnE ls p len = 0) (hfe : feE ls cs fl = 0) (hf : Fed ls p len cs fl) (h40 : ¬ 40 < mv) (hm : mvE ls p len mv = 0) (w : World) (hT : Tab w) (hA : Lies w w.heap.size gt.A (ic ls)) (hC : Lies w w.heap.size (some ad) (cs.flatMap tc)) : Calls Tryd.prog 7 #[.agg #[.slice gt.A ls.length gt.c], .agg #[.int .i64 p, .int .i64 len], .agg #[.slice (some ad) cs.length gfc, .int .i64 fl.a, .int .i64 fl.b, .int .i64 mv]] w fun e w' => e = .returned (.bool true) ∧ Below w.heap.size w w' := by
  have F0 := Lib.hid (Fr.b3 w 49 #[.slice gt.A ls.length gt.c] 51 #[.int .i64 p, .int .i64 len] 65 #[.slice (some ad) cs.length gfc, .int .i64 fl.a, .int .i64 fl.b, .int .i64 mv])
  have T0 := Lib.hid (((hT.new (.cells #[.slice gt.A ls.length gt.c] 49)).new (.cells #[.int .i64 p, .int .i64 len] 51)).new (.cells #[.slice (some ad) cs.length gfc, .int .i64 fl.a, .int .i64 fl.b, .int .i64 mv] 65))
  clear hT
  have HA := Lib.hid hA
  have HG := Lib.hid hg
  have HC := Lib.hid hC
  have HGF := Lib.hid hgf
  clear hA hg hC hgf
  have HS : Hid (decide ((ls.length : Int) ≤ 14) = true) := Lib.hid (by simp; omega)
  have h1 := hf.q.n1
  have HP := Lib.hid hf.q
  have HX := Lib.hid hf.q.x
  have HT : Hid ((trkE ls).2 = 0) := Lib.hid (by rw [trkE_ok hf.q.n0 hf.q.n1 hf.q.x])
  have HN := Lib.hid hn
  have HFE := Lib.hid hfe
  have gl : ¬ (14 : Int) < cs.length := by omega
  have HME := Lib.hid hm
  have HNS := Lib.hid (no_step hf hm)
  have hcl := hf.n
  have hc0 := hf.q.n0
  have HCN : Hid (cs.length = ls.length) := Lib.hid hf.n
  have HCO := Lib.hid hf.c
  have HFO2 := Lib.hid hf.f
  obtain ⟨q, hq⟩ : ∃ q, frcV ls p len cs fl = q := ⟨_, rfl⟩
  obtain ⟨m, hg2⟩ : ∃ m, gsV (frcAt ls p len cs fl) mv.toNat = m := ⟨_, rfl⟩
  obtain ⟨ev, hev⟩ : ∃ ev, evB cs fl = ev := ⟨_, rfl⟩
  have HFO : Hid (∀ (w : World) (A : Option Addr) (c : Nat) (C : Option Addr) (d : Nat), Lies w w.heap.size A (ic ls) → Lies w w.heap.size C (cs.flatMap tc) → Calls Tryd.prog 36 #[.agg #[.slice A ls.length c], .agg #[.int .i64 p, .int .i64 len], .agg #[.slice C cs.length d, .int .i64 fl.a, .int .i64 fl.b, .int .i64 mv]] w fun e w' => e = .returned (.tuple #[.int .i64 q, .int .i64 0]) ∧ Below w.heap.size w w') := Lib.hid (fun w A c C d h1 h2 => by have := ForceAt_ok ls A c p len cs C d fl mv hf w h1 h2; rw [hq] at this; exact this)
  have HGO : Hid (∀ (w : World) (A : Option Addr) (c : Nat) (C : Option Addr) (d : Nat), Lies w w.heap.size A (ic ls) → Lies w w.heap.size C (cs.flatMap tc) → Calls Tryd.prog 38 #[.agg #[.slice A ls.length c], .agg #[.int .i64 p, .int .i64 len], .agg #[.slice C cs.length d, .int .i64 fl.a, .int .i64 fl.b, .int .i64 mv]] w fun e w' => e = .returned (.tuple #[.int .i64 m, .int .i64 0]) ∧ Below w.heap.size w w') := Lib.hid (fun w A c C d h1 h2 => by have := GreatestStep_ok ls A c p len cs C d fl mv hf hm w h1 h2; rw [hg2] at this; exact this)
  have HEV : Hid (∀ (w : World) (A : Option Addr) (c : Nat), Lies w w.heap.size A (cs.flatMap tc) → Calls Tryd.prog 44 #[.slice A cs.length c, (.agg #[.int .i64 fl.a, .int .i64 fl.b])] w fun e w' => e = .returned (.tuple #[.bool ev, .int .i64 0]) ∧ Below w.heap.size w w') := Lib.hid (fun w A c h => by have := Even_ok cs A c fl (by omega) (by omega) hf.c hf.f w h; rw [hev] at this; exact this)
  rw [hq, hg2, hev] at HNS
  have hm0 := HNS.out.m0
  have HQB : Hid (∀ i, -60000000000 ≤ qV cs fl i ∧ qV cs fl i ≤ 60000000000) := Lib.hid (fun i => force_bd (getT_bd hf.c i) (okT_bd hf.f))
  have l1 := hf.q.l1
  have l0 := hf.q.l0
  clear hf hn hfe hm hq hg2 hev hcl hc0
  go_enter Tryd.func7, Tryd.ntmps7
  go_wp2_with fail
  refine (awake_any _ T0.out).mono ?_
  rintro e w1 ⟨rfl, hb1⟩
  have G1 := Fr.call F0.out hb1
  obtain ⟨k0_0, kf0⟩ := (G1.get 2 rfl).one
  have kz0 := (G1.get 2 rfl).lt
  obtain ⟨k1_0, k1_1, kf1, kg1⟩ := (G1.get 1 rfl).two
  have kz1 := (G1.get 1 rfl).lt
  obtain ⟨k2_0, k2_1, k2_2, k2_3⟩ := (G1.get 0 rfl).four
  have kz2 := (G1.get 0 rfl).lt
  have F1 : Hid (Fr w _ [(w.heap.size + 1 + 1, 65, #[.slice (some ad) cs.length gfc, .int .i64 fl.a, .int .i64 fl.b, .int .i64 mv]), (w.heap.size + 1, 51, #[.int .i64 p, .int .i64 len]), (w.heap.size, 49, #[.slice gt.A ls.length gt.c])]) := Lib.hid G1
  clear hb1 G1 F0
  go_wp2_with fail
  refine (sections_any gt.A ls.length gt.c _).mono ?_
  rintro e w2 ⟨rfl, hb2⟩
  rw [HS.out]
  clear k0_0 kf0 kz0 k1_0 k1_1 kf1 kg1 kz1 k2_0 k2_1 k2_2 k2_3 kz2
  have G2 := Fr.call F1.out hb2
  obtain ⟨k0_0, kf0⟩ := (G2.get 2 rfl).one
  have kz0 := (G2.get 2 rfl).lt
  obtain ⟨k1_0, k1_1, kf1, kg1⟩ := (G2.get 1 rfl).two
  have kz1 := (G2.get 1 rfl).lt
  obtain ⟨k2_0, k2_1, k2_2, k2_3⟩ := (G2.get 0 rfl).four
  have kz2 := (G2.get 0 rfl).lt
  have F2 : Hid (Fr w _ [(w.heap.size + 1 + 1, 65, #[.slice (some ad) cs.length gfc, .int .i64 fl.a, .int .i64 fl.b, .int .i64 mv]), (w.heap.size + 1, 51, #[.int .i64 p, .int .i64 len]), (w.heap.size, 49, #[.slice gt.A ls.length gt.c])]) := Lib.hid G2
  clear hb2 G2 F1
  go_wp2_with fail
  refine (TrackErr_any ls gt.A gt.c (by omega) _ (Fr.lies HA.out F2.out)).mono ?_
  rintro e w3 ⟨rfl, hb3⟩
  rw [HT.out]
  clear k0_0 kf0 kz0 k1_0 k1_1 kf1 kg1 kz1 k2_0 k2_1 k2_2 k2_3 kz2
  have G3 := Fr.call F2.out hb3
  obtain ⟨k0_0, kf0⟩ := (G3.get 2 rfl).one
  have kz0 := (G3.get 2 rfl).lt
  obtain ⟨k1_0, k1_1, kf1, kg1⟩ := (G3.get 1 rfl).two
  have kz1 := (G3.get 1 rfl).lt
  obtain ⟨k2_0, k2_1, k2_2, k2_3⟩ := (G3.get 0 rfl).four
  have kz2 := (G3.get 0 rfl).lt
  have F3 : Hid (Fr w _ [(w.heap.size + 1 + 1, 65, #[.slice (some ad) cs.length gfc, .int .i64 fl.a, .int .i64 fl.b, .int .i64 mv]), (w.heap.size + 1, 51, #[.int .i64 p, .int .i64 len]), (w.heap.size, 49, #[.slice gt.A ls.length gt.c])]) := Lib.hid G3
  clear hb3 G3 F2
  go_wp2_with fail
  refine (TrainErr_any ls gt.A gt.c h1 HX.out p len _ (Fr.lies HA.out F3.out)).mono ?_
  rintro e w4 ⟨rfl, hb4⟩
  rw [HN.out]
  clear k0_0 kf0 kz0 k1_0 k1_1 kf1 kg1 kz1 k2_0 k2_1 k2_2 k2_3 kz2
  have G4 := Fr.call F3.out hb4
  obtain ⟨k0_0, kf0⟩ := (G4.get 2 rfl).one
  have kz0 := (G4.get 2 rfl).lt
  obtain ⟨k1_0, k1_1, kf1, kg1⟩ := (G4.get 1 rfl).two
  have kz1 := (G4.get 1 rfl).lt
  obtain ⟨k2_0, k2_1, k2_2, k2_3⟩ := (G4.get 0 rfl).four
  have kz2 := (G4.get 0 rfl).lt
  have F4 : Hid (Fr w _ [(w.heap.size + 1 + 1, 65, #[.slice (some ad) cs.length gfc, .int .i64 fl.a, .int .i64 fl.b, .int .i64 mv]), (w.heap.size + 1, 51, #[.int .i64 p, .int .i64 len]), (w.heap.size, 49, #[.slice gt.A ls.length gt.c])]) := Lib.hid G4
  clear hb4 G4 F3
  go_wp2_with fail
  refine (FeedErr_any ls gt.A gt.c (by omega) cs (some ad) gfc (by omega) fl mv _ (Fr.lies HC.out F4.out)).mono ?_
  rintro e w5 ⟨rfl, hb5⟩
  rw [HFE.out]
  clear k0_0 kf0 kz0 k1_0 k1_1 kf1 kg1 kz1 k2_0 k2_1 k2_2 k2_3 kz2
  have G5 := Fr.call F4.out hb5
  obtain ⟨k0_0, kf0⟩ := (G5.get 2 rfl).one
  have kz0 := (G5.get 2 rfl).lt
  obtain ⟨k1_0, k1_1, kf1, kg1⟩ := (G5.get 1 rfl).two
  have kz1 := (G5.get 1 rfl).lt
  obtain ⟨k2_0, k2_1, k2_2, k2_3⟩ := (G5.get 0 rfl).four
  have kz2 := (G5.get 0 rfl).lt
  have F5 : Hid (Fr w _ [(w.heap.size + 1 + 1, 65, #[.slice (some ad) cs.length gfc, .int .i64 fl.a, .int .i64 fl.b, .int .i64 mv]), (w.heap.size + 1, 51, #[.int .i64 p, .int .i64 len]), (w.heap.size, 49, #[.slice gt.A ls.length gt.c])]) := Lib.hid G5
  clear hb5 G5 F4
  go_wp2_with fail
  refine (MoveErr_any ls gt.A gt.c p len cs.length gfc (some ad) fl mv HP.out _ (Fr.lies HA.out F5.out)).mono ?_
  rintro e w6 ⟨rfl, hb6⟩
  rw [HME.out]
  clear k0_0 kf0 kz0 k1_0 k1_1 kf1 kg1 kz1 k2_0 k2_1 k2_2 k2_3 kz2
  have G6 := Fr.call F5.out hb6
  obtain ⟨k0_0, kf0⟩ := (G6.get 2 rfl).one
  have kz0 := (G6.get 2 rfl).lt
  obtain ⟨k1_0, k1_1, kf1, kg1⟩ := (G6.get 1 rfl).two
  have kz1 := (G6.get 1 rfl).lt
  obtain ⟨k2_0, k2_1, k2_2, k2_3⟩ := (G6.get 0 rfl).four
  have kz2 := (G6.get 0 rfl).lt
  have F6 : Hid (Fr w _ [(w.heap.size + 1 + 1, 65, #[.slice (some ad) cs.length gfc, .int .i64 fl.a, .int .i64 fl.b, .int .i64 mv]), (w.heap.size + 1, 51, #[.int .i64 p, .int .i64 len]), (w.heap.size, 49, #[.slice gt.A ls.length gt.c])]) := Lib.hid G6
  clear hb6 G6 F5
  go_upto_region 5 with fail
  go_cut [7, 8] from 58 to 66 (fun r s W => r = .int .i64 m ∧ s = .int .i64 0 ∧ Fr w W [(w.heap.size + 1 + 1, 65, #[.slice (some ad) cs.length gfc, .int .i64 fl.a, .int .i64 fl.b, .int .i64 mv]), (w.heap.size + 1, 51, #[.int .i64 p, .int .i64 len]), (w.heap.size, 49, #[.slice gt.A ls.length gt.c])])
  case first =>
    have HALL : Hid (∀ W, Fr w W [(w.heap.size + 1 + 1, 65, #[.slice (some ad) cs.length gfc, .int .i64 fl.a, .int .i64 fl.b, .int .i64 mv]), (w.heap.size + 1, 51, #[.int .i64 p, .int .i64 len]), (w.heap.size, 49, #[.slice gt.A ls.length gt.c])] → Fr w W [(w.heap.size + 1 + 1, 65, #[.slice (some ad) cs.length gfc, .int .i64 fl.a, .int .i64 fl.b, .int .i64 mv]), (w.heap.size + 1, 51, #[.int .i64 p, .int .i64 len]), (w.heap.size, 49, #[.slice gt.A ls.length gt.c])] ∧ W.cell? ⟨w.heap.size, 0, none⟩ = some (.slice gt.A ls.length gt.c) ∧ W.cell? ⟨w.heap.size + 1, 0, none⟩ = some (.int .i64 p) ∧ W.cell? ⟨w.heap.size + 1, 1, none⟩ = some (.int .i64 len) ∧ W.cell? ⟨w.heap.size + 1 + 1, 0, none⟩ = some (.slice (some ad) cs.length gfc) ∧ W.cell? ⟨w.heap.size + 1 + 1, 1, none⟩ = some (.int .i64 fl.a) ∧ W.cell? ⟨w.heap.size + 1 + 1, 2, none⟩ = some (.int .i64 fl.b) ∧ W.cell? ⟨w.heap.size + 1 + 1, 3, none⟩ = some (.int .i64 mv)) := Lib.hid (fun W hW => ⟨hW, hW.at2.cell 0, hW.at1.cell 0, hW.at1.cell 1, hW.top.cell 0, hW.top.cell 1, hW.top.cell 2, hW.top.cell 3⟩)
    have F10 : Fr w _ [(w.heap.size + 1 + 1, 65, #[.slice (some ad) cs.length gfc, .int .i64 fl.a, .int .i64 fl.b, .int .i64 mv]), (w.heap.size + 1, 51, #[.int .i64 p, .int .i64 len]), (w.heap.size, 49, #[.slice gt.A ls.length gt.c])] := F6.out
    clear F6
    go_region_held3 (fun W => Fr w W [(w.heap.size + 1 + 1, 65, #[.slice (some ad) cs.length gfc, .int .i64 fl.a, .int .i64 fl.b, .int .i64 mv]), (w.heap.size + 1, 51, #[.int .i64 p, .int .i64 len]), (w.heap.size, 49, #[.slice gt.A ls.length gt.c])] ∧ W.cell? ⟨w.heap.size, 0, none⟩ = some (.slice gt.A ls.length gt.c) ∧ W.cell? ⟨w.heap.size + 1, 0, none⟩ = some (.int .i64 p) ∧ W.cell? ⟨w.heap.size + 1, 1, none⟩ = some (.int .i64 len) ∧ W.cell? ⟨w.heap.size + 1 + 1, 0, none⟩ = some (.slice (some ad) cs.length gfc) ∧ W.cell? ⟨w.heap.size + 1 + 1, 1, none⟩ = some (.int .i64 fl.a) ∧ W.cell? ⟨w.heap.size + 1 + 1, 2, none⟩ = some (.int .i64 fl.b) ∧ W.cell? ⟨w.heap.size + 1 + 1, 3, none⟩ = some (.int .i64 mv))
      ((go_split_ands; refine HALL.out _ ?_; (first | assumption | (repeat (first | assumption | refine Fr.new ?_ _ | refine Fr.drew ?_ | (refine Fr.set ?_ (by first | exact Nat.le_refl _ | omega | (simp; done) | (simp; omega)) (by first | (simp; done) | (simp; omega)) _))); done)))
      ((first
        | (go_at_call 30; go_split_ands; (with_reducible refine (CopyTrack_any ls gt (by omega) HG.out _ (Fr.lies HA.out (by assumption))).mono ?_); rintro e w1 ⟨g2, rfl, hl2, hk2, hb1⟩; have HL1 := Lib.hid hl2; (first | (have HL2 := Lib.hid (Lies.call HL2.out hb1)) | skip); have F4 := Fr.call (by assumption) hb1; clear hb1 hl2 hk2)
        | (go_at_call 37; go_split_ands; (with_reducible refine (CopyFeed_any cs ⟨some ad, gfc⟩ fl mv (by omega) HGF.out _ (Fr.lies HC.out (by assumption))).mono ?_); rintro e w1 ⟨g2, rfl, hl2, hk2, hb1⟩; have HL2 := Lib.hid hl2; (first | (have HL1 := Lib.hid (Lies.call HL1.out hb1)) | skip); have F4 := Fr.call (by assumption) hb1; clear hb1 hl2 hk2)
        | (go_at_call 38; go_split_ands; (with_reducible refine (HGO.out _ _ _ _ _ HL1.out HL2.out).mono ?_); rintro e w1 ⟨rfl, hb1⟩; have F5 := Fr.call (by assumption) hb1; clear hb1)
        | fail "arm"))
    all_goals
      go_split_ands
      go_wp2_with fail
      go_meet
      exact ⟨rfl, rfl, by assumption⟩
  case rest =>
    obtain ⟨wx, rfl⟩ : ∃ W, W = wc := ⟨_, rfl⟩
    obtain ⟨rfl, rfl, hx⟩ := hcut
    have FC5 : Hid (Fr w _ [(w.heap.size + 1 + 1, 65, #[.slice (some ad) cs.length gfc, .int .i64 fl.a, .int .i64 fl.b, .int .i64 mv]), (w.heap.size + 1, 51, #[.int .i64 p, .int .i64 len]), (w.heap.size, 49, #[.slice gt.A ls.length gt.c])]) := Lib.hid hx
    clear k0_0 kf0 kz0 k1_0 k1_1 kf1 kg1 kz1 k2_0 k2_1 k2_2 k2_3 kz2 hx F6
    obtain ⟨k0_0, kf0⟩ := (FC5.out.get 2 rfl).one
    have kz0 := (FC5.out.get 2 rfl).lt
    obtain ⟨k1_0, k1_1, kf1, kg1⟩ := (FC5.out.get 1 rfl).two
    have kz1 := (FC5.out.get 1 rfl).lt
    obtain ⟨k2_0, k2_1, k2_2, k2_3⟩ := (FC5.out.get 0 rfl).four
    have kz2 := (FC5.out.get 0 rfl).lt
    go_upto_region 6 with fail
    go_cut [9, 10] from 67 to 75 (fun r s W => r = .int .i64 q ∧ s = .int .i64 0 ∧ Fr w W [(w.heap.size + 1 + 1, 65, #[.slice (some ad) cs.length gfc, .int .i64 fl.a, .int .i64 fl.b, .int .i64 mv]), (w.heap.size + 1, 51, #[.int .i64 p, .int .i64 len]), (w.heap.size, 49, #[.slice gt.A ls.length gt.c])])
    case first =>
      have HALL : Hid (∀ W, Fr w W [(w.heap.size + 1 + 1, 65, #[.slice (some ad) cs.length gfc, .int .i64 fl.a, .int .i64 fl.b, .int .i64 mv]), (w.heap.size + 1, 51, #[.int .i64 p, .int .i64 len]), (w.heap.size, 49, #[.slice gt.A ls.length gt.c])] → Fr w W [(w.heap.size + 1 + 1, 65, #[.slice (some ad) cs.length gfc, .int .i64 fl.a, .int .i64 fl.b, .int .i64 mv]), (w.heap.size + 1, 51, #[.int .i64 p, .int .i64 len]), (w.heap.size, 49, #[.slice gt.A ls.length gt.c])] ∧ W.cell? ⟨w.heap.size, 0, none⟩ = some (.slice gt.A ls.length gt.c) ∧ W.cell? ⟨w.heap.size + 1, 0, none⟩ = some (.int .i64 p) ∧ W.cell? ⟨w.heap.size + 1, 1, none⟩ = some (.int .i64 len) ∧ W.cell? ⟨w.heap.size + 1 + 1, 0, none⟩ = some (.slice (some ad) cs.length gfc) ∧ W.cell? ⟨w.heap.size + 1 + 1, 1, none⟩ = some (.int .i64 fl.a) ∧ W.cell? ⟨w.heap.size + 1 + 1, 2, none⟩ = some (.int .i64 fl.b) ∧ W.cell? ⟨w.heap.size + 1 + 1, 3, none⟩ = some (.int .i64 mv)) := Lib.hid (fun W hW => ⟨hW, hW.at2.cell 0, hW.at1.cell 0, hW.at1.cell 1, hW.top.cell 0, hW.top.cell 1, hW.top.cell 2, hW.top.cell 3⟩)
      have F10 : Fr w _ [(w.heap.size + 1 + 1, 65, #[.slice (some ad) cs.length gfc, .int .i64 fl.a, .int .i64 fl.b, .int .i64 mv]), (w.heap.size + 1, 51, #[.int .i64 p, .int .i64 len]), (w.heap.size, 49, #[.slice gt.A ls.length gt.c])] := FC5.out
      clear FC5
      go_region_held3 (fun W => Fr w W [(w.heap.size + 1 + 1, 65, #[.slice (some ad) cs.length gfc, .int .i64 fl.a, .int .i64 fl.b, .int .i64 mv]), (w.heap.size + 1, 51, #[.int .i64 p, .int .i64 len]), (w.heap.size, 49, #[.slice gt.A ls.length gt.c])] ∧ W.cell? ⟨w.heap.size, 0, none⟩ = some (.slice gt.A ls.length gt.c) ∧ W.cell? ⟨w.heap.size + 1, 0, none⟩ = some (.int .i64 p) ∧ W.cell? ⟨w.heap.size + 1, 1, none⟩ = some (.int .i64 len) ∧ W.cell? ⟨w.heap.size + 1 + 1, 0, none⟩ = some (.slice (some ad) cs.length gfc) ∧ W.cell? ⟨w.heap.size + 1 + 1, 1, none⟩ = some (.int .i64 fl.a) ∧ W.cell? ⟨w.heap.size + 1 + 1, 2, none⟩ = some (.int .i64 fl.b) ∧ W.cell? ⟨w.heap.size + 1 + 1, 3, none⟩ = some (.int .i64 mv))
        ((go_split_ands; refine HALL.out _ ?_; (first | assumption | (repeat (first | assumption | refine Fr.new ?_ _ | refine Fr.drew ?_ | (refine Fr.set ?_ (by first | exact Nat.le_refl _ | omega | (simp; done) | (simp; omega)) (by first | (simp; done) | (simp; omega)) _))); done)))
        ((first
          | (go_at_call 30; go_split_ands; (with_reducible refine (CopyTrack_any ls gt (by omega) HG.out _ (Fr.lies HA.out (by assumption))).mono ?_); rintro e w1 ⟨g2, rfl, hl2, hk2, hb1⟩; have HL1 := Lib.hid hl2; (first | (have HL2 := Lib.hid (Lies.call HL2.out hb1)) | skip); have F4 := Fr.call (by assumption) hb1; clear hb1 hl2 hk2)
          | (go_at_call 37; go_split_ands; (with_reducible refine (CopyFeed_any cs ⟨some ad, gfc⟩ fl mv (by omega) HGF.out _ (Fr.lies HC.out (by assumption))).mono ?_); rintro e w1 ⟨g2, rfl, hl2, hk2, hb1⟩; have HL2 := Lib.hid hl2; (first | (have HL1 := Lib.hid (Lies.call HL1.out hb1)) | skip); have F4 := Fr.call (by assumption) hb1; clear hb1 hl2 hk2)
          | (go_at_call 36; go_split_ands; (with_reducible refine (HFO.out _ _ _ _ _ HL1.out HL2.out).mono ?_); rintro e w1 ⟨rfl, hb1⟩; have F5 := Fr.call (by assumption) hb1; clear hb1)
          | fail "arm"))
      all_goals
        go_split_ands
        go_wp2_with fail
        go_meet
        exact ⟨rfl, rfl, by assumption⟩
    case rest =>
      obtain ⟨wx, rfl⟩ : ∃ W, W = wc := ⟨_, rfl⟩
      obtain ⟨rfl, rfl, hx⟩ := hcut
      have FC6 : Hid (Fr w _ [(w.heap.size + 1 + 1, 65, #[.slice (some ad) cs.length gfc, .int .i64 fl.a, .int .i64 fl.b, .int .i64 mv]), (w.heap.size + 1, 51, #[.int .i64 p, .int .i64 len]), (w.heap.size, 49, #[.slice gt.A ls.length gt.c])]) := Lib.hid hx
      clear k0_0 kf0 kz0 k1_0 k1_1 kf1 kg1 kz1 k2_0 k2_1 k2_2 k2_3 kz2 hx FC5
      obtain ⟨k0_0, kf0⟩ := (FC6.out.get 2 rfl).one
      have kz0 := (FC6.out.get 2 rfl).lt
      obtain ⟨k1_0, k1_1, kf1, kg1⟩ := (FC6.out.get 1 rfl).two
      have kz1 := (FC6.out.get 1 rfl).lt
      obtain ⟨k2_0, k2_1, k2_2, k2_3⟩ := (FC6.out.get 0 rfl).four
      have kz2 := (FC6.out.get 0 rfl).lt
      go_upto_region 7 with fail
      go_cut [11, 12] from 76 to 84 (fun r s W => r = .bool ev ∧ s = .int .i64 0 ∧ Fr w W [(w.heap.size + 1 + 1, 65, #[.slice (some ad) cs.length gfc, .int .i64 fl.a, .int .i64 fl.b, .int .i64 mv]), (w.heap.size + 1, 51, #[.int .i64 p, .int .i64 len]), (w.heap.size, 49, #[.slice gt.A ls.length gt.c])])
      case first =>
        have HALL : Hid (∀ W, Fr w W [(w.heap.size + 1 + 1, 65, #[.slice (some ad) cs.length gfc, .int .i64 fl.a, .int .i64 fl.b, .int .i64 mv]), (w.heap.size + 1, 51, #[.int .i64 p, .int .i64 len]), (w.heap.size, 49, #[.slice gt.A ls.length gt.c])] → Fr w W [(w.heap.size + 1 + 1, 65, #[.slice (some ad) cs.length gfc, .int .i64 fl.a, .int .i64 fl.b, .int .i64 mv]), (w.heap.size + 1, 51, #[.int .i64 p, .int .i64 len]), (w.heap.size, 49, #[.slice gt.A ls.length gt.c])] ∧ W.cell? ⟨w.heap.size, 0, none⟩ = some (.slice gt.A ls.length gt.c) ∧ W.cell? ⟨w.heap.size + 1, 0, none⟩ = some (.int .i64 p) ∧ W.cell? ⟨w.heap.size + 1, 1, none⟩ = some (.int .i64 len) ∧ W.cell? ⟨w.heap.size + 1 + 1, 0, none⟩ = some (.slice (some ad) cs.length gfc) ∧ W.cell? ⟨w.heap.size + 1 + 1, 1, none⟩ = some (.int .i64 fl.a) ∧ W.cell? ⟨w.heap.size + 1 + 1, 2, none⟩ = some (.int .i64 fl.b) ∧ W.cell? ⟨w.heap.size + 1 + 1, 3, none⟩ = some (.int .i64 mv)) := Lib.hid (fun W hW => ⟨hW, hW.at2.cell 0, hW.at1.cell 0, hW.at1.cell 1, hW.top.cell 0, hW.top.cell 1, hW.top.cell 2, hW.top.cell 3⟩)
        have F10 : Fr w _ [(w.heap.size + 1 + 1, 65, #[.slice (some ad) cs.length gfc, .int .i64 fl.a, .int .i64 fl.b, .int .i64 mv]), (w.heap.size + 1, 51, #[.int .i64 p, .int .i64 len]), (w.heap.size, 49, #[.slice gt.A ls.length gt.c])] := FC6.out
        clear FC6
        go_region_held3 (fun W => Fr w W [(w.heap.size + 1 + 1, 65, #[.slice (some ad) cs.length gfc, .int .i64 fl.a, .int .i64 fl.b, .int .i64 mv]), (w.heap.size + 1, 51, #[.int .i64 p, .int .i64 len]), (w.heap.size, 49, #[.slice gt.A ls.length gt.c])] ∧ W.cell? ⟨w.heap.size, 0, none⟩ = some (.slice gt.A ls.length gt.c) ∧ W.cell? ⟨w.heap.size + 1, 0, none⟩ = some (.int .i64 p) ∧ W.cell? ⟨w.heap.size + 1, 1, none⟩ = some (.int .i64 len) ∧ W.cell? ⟨w.heap.size + 1 + 1, 0, none⟩ = some (.slice (some ad) cs.length gfc) ∧ W.cell? ⟨w.heap.size + 1 + 1, 1, none⟩ = some (.int .i64 fl.a) ∧ W.cell? ⟨w.heap.size + 1 + 1, 2, none⟩ = some (.int .i64 fl.b) ∧ W.cell? ⟨w.heap.size + 1 + 1, 3, none⟩ = some (.int .i64 mv))
          ((go_split_ands; refine HALL.out _ ?_; (first | assumption | (repeat (first | assumption | refine Fr.new ?_ _ | refine Fr.drew ?_ | (refine Fr.set ?_ (by first | exact Nat.le_refl _ | omega | (simp; done) | (simp; omega)) (by first | (simp; done) | (simp; omega)) _))); done)))
          ((first
            | (go_at_call 45; go_split_ands; (with_reducible refine (CopyVectors_any cs ⟨some ad, gfc⟩ (by omega) HGF.out _ (Fr.lies HC.out (by assumption))).mono ?_); rintro e w1 ⟨g2, rfl, hl2, hk2, _, hb1⟩; have HL2 := Lib.hid hl2; have F4 := Fr.call (by assumption) hb1; clear hb1 hl2 hk2)
            | (go_at_call 44; go_split_ands; (with_reducible refine (HEV.out _ _ _ (by exact HL2.out)).mono ?_); rintro e w1 ⟨rfl, hb1⟩; have F5 := Fr.call (by assumption) hb1; clear hb1)
            | fail "arm"))
        all_goals
          go_split_ands
          go_wp2_with fail
          go_meet
          exact ⟨rfl, rfl, by assumption⟩
      case rest =>
        obtain ⟨wx, rfl⟩ : ∃ W, W = wc := ⟨_, rfl⟩
        obtain ⟨rfl, rfl, hx⟩ := hcut
        have FC7 : Hid (Fr w _ [(w.heap.size + 1 + 1, 65, #[.slice (some ad) cs.length gfc, .int .i64 fl.a, .int .i64 fl.b, .int .i64 mv]), (w.heap.size + 1, 51, #[.int .i64 p, .int .i64 len]), (w.heap.size, 49, #[.slice gt.A ls.length gt.c])]) := Lib.hid hx
        clear k0_0 kf0 kz0 k1_0 k1_1 kf1 kg1 kz1 k2_0 k2_1 k2_2 k2_3 kz2 hx FC6
        obtain ⟨k0_0, kf0⟩ := (FC7.out.get 2 rfl).one
        have kz0 := (FC7.out.get 2 rfl).lt
        obtain ⟨k1_0, k1_1, kf1, kg1⟩ := (FC7.out.get 1 rfl).two
        have kz1 := (FC7.out.get 1 rfl).lt
        obtain ⟨k2_0, k2_1, k2_2, k2_3⟩ := (FC7.out.get 0 rfl).four
        have kz2 := (FC7.out.get 0 rfl).lt
        have hcl2 : (cs.length : Int) ≤ 12 := by have := HCN.out; omega
        go_wp2_with fail
        clear k0_0 kf0 kz0 k1_0 k1_1 kf1 kg1 kz1 k2_0 k2_1 k2_2 k2_3 kz2
        go_loopw [13, 14, 15] (fun s t i wr => ∃ k : Nat, k ≤ cs.length ∧ i = .int .i64 k ∧ s = .int .i64 (loV (qV cs fl) k) ∧ t = .int .i64 (hiV (qV cs fl) k) ∧ Fr w wr [(w.heap.size + 1 + 1, 65, #[.slice (some ad) cs.length gfc, .int .i64 fl.a, .int .i64 fl.b, .int .i64 mv]), (w.heap.size + 1, 51, #[.int .i64 p, .int .i64 len]), (w.heap.size, 49, #[.slice gt.A ls.length gt.c])]) (fun _ _ i _ => cs.length - (intOf i).toNat)
        case atStart => exact ⟨0, Nat.zero_le _, rfl, rfl, rfl, FC7.out⟩
        case round =>
          obtain ⟨k, hk, rfl, rfl, rfl, hfr⟩ := hrel
          have FK := Lib.hid hfr
          clear hfr FC7
          obtain ⟨x0, x1, x2, x3⟩ := FK.out.top.four
          have hzz := FK.out.top.lt
          have hlb := Lib.hid (lohi_bd (qV cs fl) 60000000000 (by omega) HQB.out k)
          by_cases hlt : k < cs.length
          · obtain ⟨a', ea, hab, ca, cb⟩ := (Fr.lies HC.out FK.out).third (List.getElem?_eq_getElem hlt)
            obtain rfl : ad = a' := Option.some.inj ea
            have hlt' : (k : Int) < (cs.length : Int) := by omega
            have haa' : (ad.add (k * 2)).block < wr.heap.size := by rw [add_blk]; exact hab
            have hokk := HCO.out _ (List.getElem_mem hlt)
            have hge := getT_at hlt
            obtain ⟨y, hy⟩ : ∃ y, qV cs fl k = y := ⟨_, rfl⟩
            have HFK : Hid (∀ w, Calls Tryd.prog 24 #[(.agg #[.int .i64 cs[k].a, .int .i64 cs[k].b]), (.agg #[.int .i64 fl.a, .int .i64 fl.b])] w fun e w' => e = .returned (.tuple #[.int .i64 y, .int .i64 0]) ∧ Below w.heap.size w w') := Lib.hid (fun w => by have := ForceOf_any cs[k] fl w; rw [show vsE [cs[k], fl] = 0 by rw [vs2, if_pos ⟨hokk, HFO2.out⟩], if_pos rfl, ← hge] at this; rw [← hge, ← hy]; exact this)
            have hyb := HQB.out k
            rw [hy] at hyb
            have hiy : inB y (-1000000000000000) 1000000000000000 = true := inB_iff.2 (by omega)
            have HY := Lib.hid hy
            have HCell : Hid (∀ W, Below wr.heap.size wr W → W.cell? (ad.add (k * 2)) = some (.int .i64 cs[k].a) ∧ W.cell? ⟨(ad.add (k * 2)).block, (ad.add (k * 2)).off + 1, none⟩ = some (.int .i64 cs[k].b)) := Lib.hid (fun W hb => ⟨(hb.cell haa').trans ca, (hb.cell (p := ⟨(ad.add (k * 2)).block, (ad.add (k * 2)).off + 1, none⟩) haa').trans cb⟩)
            clear hokk hge hy ca cb haa' ea hab
            go_upto_region 14 with fail
            go_cut [16, 17] from 106 to 116 (fun r s W => r = .int .i64 y ∧ s = .int .i64 0 ∧ Fr wr W [(w.heap.size + 1 + 1, 65, #[.slice (some ad) cs.length gfc, .int .i64 fl.a, .int .i64 fl.b, .int .i64 mv])])
            case first =>
              have HALL : Hid (∀ W, Fr wr W [(w.heap.size + 1 + 1, 65, #[.slice (some ad) cs.length gfc, .int .i64 fl.a, .int .i64 fl.b, .int .i64 mv])] → Fr wr W [(w.heap.size + 1 + 1, 65, #[.slice (some ad) cs.length gfc, .int .i64 fl.a, .int .i64 fl.b, .int .i64 mv])] ∧ W.cell? ⟨w.heap.size + 1 + 1, 0, none⟩ = some (.slice (some ad) cs.length gfc) ∧ W.cell? ⟨w.heap.size + 1 + 1, 1, none⟩ = some (.int .i64 fl.a) ∧ W.cell? ⟨w.heap.size + 1 + 1, 2, none⟩ = some (.int .i64 fl.b) ∧ W.cell? (ad.add (k * 2)) = some (.int .i64 cs[k].a) ∧ W.cell? ⟨(ad.add (k * 2)).block, (ad.add (k * 2)).off + 1, none⟩ = some (.int .i64 cs[k].b)) := Lib.hid (fun W hW => ⟨hW, hW.top.cell 0, hW.top.cell 1, hW.top.cell 2, HCell.out W hW.bl⟩)
              have F10 : Fr wr _ [(w.heap.size + 1 + 1, 65, #[.slice (some ad) cs.length gfc, .int .i64 fl.a, .int .i64 fl.b, .int .i64 mv])] := ⟨Below.refl _ _, fun b hb => by simp at hb; subst hb; exact FK.out.top⟩
              go_region_held3 (fun W => Fr wr W [(w.heap.size + 1 + 1, 65, #[.slice (some ad) cs.length gfc, .int .i64 fl.a, .int .i64 fl.b, .int .i64 mv])] ∧ W.cell? ⟨w.heap.size + 1 + 1, 0, none⟩ = some (.slice (some ad) cs.length gfc) ∧ W.cell? ⟨w.heap.size + 1 + 1, 1, none⟩ = some (.int .i64 fl.a) ∧ W.cell? ⟨w.heap.size + 1 + 1, 2, none⟩ = some (.int .i64 fl.b) ∧ W.cell? (ad.add (k * 2)) = some (.int .i64 cs[k].a) ∧ W.cell? ⟨(ad.add (k * 2)).block, (ad.add (k * 2)).off + 1, none⟩ = some (.int .i64 cs[k].b))
                ((go_split_ands; refine HALL.out _ ?_; (first | assumption | (repeat (first | assumption | refine Fr.new ?_ _ | refine Fr.drew ?_ | (refine Fr.set ?_ (by first | exact Nat.le_refl _ | omega | (simp; done) | (simp; omega)) (by first | (simp; done) | (simp; omega)) _))); done)))
                ((first
                  | (go_at_call 24; go_split_ands; (with_reducible refine (HFK.out _).mono ?_); rintro e w1 ⟨rfl, hb1⟩; have F4 := Fr.call (by assumption) hb1; clear hb1)
                  | fail "arm"))
              all_goals
                go_split_ands
                go_wp2_with fail
                go_meet
                exact ⟨rfl, rfl, by assumption⟩
            case rest =>
              obtain ⟨wx, rfl⟩ : ∃ W, W = wc := ⟨_, rfl⟩
              obtain ⟨rfl, rfl, hx⟩ := hcut
              have FC : Hid (Fr w wx [(w.heap.size + 1 + 1, 65, #[.slice (some ad) cs.length gfc, .int .i64 fl.a, .int .i64 fl.b, .int .i64 mv]), (w.heap.size + 1, 51, #[.int .i64 p, .int .i64 len]), (w.heap.size, 49, #[.slice gt.A ls.length gt.c])]) := Lib.hid (FK.out.call hx.bl)
              clear hx x0 x1 x2 x3
              obtain ⟨⟨lb0, lb1⟩, hb0, hb1⟩ := hlb.out
              by_cases hk0 : k = 0
              · subst hk0
                have HL1 : Hid (loV (qV cs fl) (0 + 1) = y ∧ hiV (qV cs fl) (0 + 1) = y) := Lib.hid ⟨HY.out, HY.out⟩
                go_wp2_with (go_at_call 23; refine (Within_any _ _ _ _).mono ?_; rintro e w' ⟨rfl, rfl⟩)
                all_goals
                  go_roundw
                  case rel => exact ⟨0 + 1, by omega, by go_num, by rw [HL1.out.1] <;> first | rfl | exact congrArg (Value.int .i64) (by omega), by rw [HL1.out.2] <;> first | rfl | exact congrArg (Value.int .i64) (by omega), FC.out⟩
                  case measure => simp [intOf]; omega
              · have HL1 : Hid (loV (qV cs fl) (k + 1) = min (loV (qV cs fl) k) y ∧ hiV (qV cs fl) (k + 1) = max (hiV (qV cs fl) k) y) := Lib.hid ⟨by rw [← HY.out]; show (if k = 0 then _ else _) = _; rw [if_neg hk0], by rw [← HY.out]; show (if k = 0 then _ else _) = _; rw [if_neg hk0]⟩
                have gk0 : ((k : Int) == 0) = false := by simp only [beq_eq_false_iff_ne, ne_eq]; omega
                go_wp2_with (go_at_call 23; refine (Within_any _ _ _ _).mono ?_; rintro e w' ⟨rfl, rfl⟩)
                all_goals
                  go_roundw
                  case rel => exact ⟨k + 1, by omega, by go_num, by rw [HL1.out.1] <;> first | rfl | exact congrArg (Value.int .i64) (by omega), by rw [HL1.out.2] <;> first | rfl | exact congrArg (Value.int .i64) (by omega), FC.out⟩
                  case measure => simp [intOf]; omega
          · obtain rfl : k = cs.length := by omega
            obtain ⟨⟨lb0, lb1⟩, hb0, hb1⟩ := hlb.out
            have hNS := HNS.out
            rw [← HCN.out] at hNS
            obtain ⟨y0, y1, _, _⟩ := FK.out.at1.two
            have hzy := FK.out.at1.lt
            clear HNS hlb
            obtain ⟨n0, n1, n2⟩ := hNS
            generalize loV (qV cs fl) cs.length = lo at *
            generalize hiV (qV cs fl) cs.length = hi at *
            have ws := IntWalk.i64_in (hi - lo) ⟨by omega, by omega⟩
            have g1 : ¬ hi - lo < m := by omega
            rcases n2 with ⟨rfl, rfl, rfl, rfl⟩ | ⟨rfl, hne⟩
            · have hmul := mulB (A := 1000000) (B := 60000000000) (x := len) (y := lo) (by omega) ⟨lb0, lb1⟩
              have wm := IntWalk.i64_in (len * lo) ⟨by omega, by omega⟩
              go_wp2_with fail
              go_ret
              exact ⟨rfl, FK.out.bl⟩
            · have gb : (lo == hi) = false := by simp [hne]
              go_wp2_with fail
              go_ret
              exact ⟨rfl, FK.out.bl⟩

set_option maxHeartbeats 4000000 in
set_option maxRecDepth 100000 in
theorem StatorNoStep_any (ls : List Int) (gt : Hd) (hg : HdOk gt) (hm : ls.length ≤ maxLen) (_ho : ∀ y ∈ ls, I64 y) (p len : Int) (_ip : I64 p) (_il : I64 len) (cs : List T3) (gf : Hd) (hgf : HdOk gf) (hm2 : cs.length ≤ maxLen) (fl : T3) (mv : Int) (_im : I64 mv) (w : World) (hT : Tab w) (hA : Lies w w.heap.size gt.A (ic ls)) (hC : Lies w w.heap.size gf.A (cs.flatMap tc)) : Calls Tryd.prog 7 #[.agg #[.slice gt.A ls.length gt.c], .agg #[.int .i64 p, .int .i64 len], .agg #[.slice gf.A cs.length gf.c, .int .i64 fl.a, .int .i64 fl.b, .int .i64 mv]] w fun e w' => e = .returned (.bool true) ∧ Below w.heap.size w w' := by
  by_cases hl : ls.length ≤ 14
  · rcases trk_cases ls with ⟨ht, h0, h1, hx⟩ | hr
    · by_cases hn : trnE ls p len = 0
      · by_cases hl2 : cs.length ≤ 14
        · by_cases hfe : feE ls cs fl = 0
          · by_cases h40 : 40 < mv
            · exact nostep_far ls gt hg p len cs gf hgf fl mv hl ht h1 hx hn hl2 hfe h40 w hT hA hC
            · have hf : Fed ls p len cs fl := fed_of (by rw [fed_fe (by rw [plc_trn (by rw [ht]), hn]), hfe])
              by_cases hmo : mvE ls p len mv = 0
              · obtain ⟨GA, gc⟩ := gf
                cases GA with
                | none =>
                  obtain ⟨a, h, _⟩ := Lies.third (i := 0) hC (List.getElem?_eq_getElem (by rw [hf.n]; omega))
                  cases h
                | some ad => exact nostep_ok ls gt hg p len cs ad gc hgf fl mv hl hl2 hn hfe hf h40 hmo w hT hA hC
              · exact nostep_move ls gt hg p len cs gf hgf fl mv hl hl2 hn hfe hf h40 _ rfl hmo w hT hA hC
          · exact nostep_feed ls gt hg p len cs gf hgf fl mv hl ht h1 hx hn hl2 _ rfl hfe w hT hA hC
        · exact nostep_many ls gt hg p len cs gf hgf fl mv hl ht h1 hx hn hl2 hm2 w hT hA hC
      · exact nostep_train ls gt hg p len cs gf hgf fl mv hl ht h1 hx _ rfl hn w hT hA hC
    · exact nostep_track ls gt hg p len cs gf hgf fl mv hl _ rfl hr w hT hA hC
  · exact nostep_long ls gt hg p len cs gf hgf fl mv hl hm w hT hA hC
end Go.Proofs.YtemjefhfplaibaaDoor
