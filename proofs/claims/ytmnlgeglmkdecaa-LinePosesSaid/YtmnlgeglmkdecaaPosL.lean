/-
  The walk of LinePoses: a good line and vehicle.
-/
import Derived.Test.YtmnlgeglmkdecaaPosL1
import Derived.Test.YtmnlgeglmkdecaaRefUn
import Derived.Deep.DeepCutAuto
import Derived.Deep.CutRange
namespace Go.Proofs.Ytmnlgeglmkdecaa
open Go.RowKit

set_option maxHeartbeats 16000000 in
set_option maxRecDepth 100000 in
theorem LinePoses_some_at {L : Ll} (hL : L.ok) {H : Hds} (hH : HdsOk H) (hF : ∀ w : World, LnAt w w.heap.size L H → Calls Try.prog 16 #[(.agg #[.string L.name, .slice H.j.A L.js.length H.j.c, .slice H.b.A L.bs.length H.b.c, .slice H.s.A L.ss.length H.s.c])] w fun e w' => e = .returned (.bool true) ∧ Below w.heap.size w w') {v : Lv} {p : Int} (hr : Right L) (hck : ckLine L = ((0, 0), 0)) (hv : vErr v = 0) (hm : decide (placeL L.bs L.bs.length / v.step ≤ 100) = true) {q j lo hi : Int} (hu : unL L v = some (q, j, lo, hi)) (hp : inB p 0 (placeL L.bs L.bs.length - v.len) = true) (ht : p.tmod v.step = 0) (w : World) (hA : LnAt w w.heap.size L H) :
    Calls Try.prog 10 #[(.agg #[.string L.name, .slice H.j.A L.js.length H.j.c, .slice H.b.A L.bs.length H.b.c, .slice H.s.A L.ss.length H.s.c]), (.agg #[.int .i64 v.len, .int .i64 v.clear, .int .i64 v.step]), .int .i64 p] w fun e w' => e = .returned (.bool true) ∧ Below w.heap.size w w' := by
  have S0 := Lib.hid (QV.start (v := v) hA)
  have HF := Lib.hid hF
  have HH := Lib.hid hH
  have HL := Lib.hid hL
  clear hA hF hH hL
  have HC := Lib.hid hck
  have HR := Lib.hid hr
  have HV := Lib.hid hv
  have HVE := Lib.hid hv
  have HM := Lib.hid hm
  have HRU : Hid (unRef L v = .tuple #[.agg #[.int .i64 q, .int .i64 j, .int .i64 lo, .int .i64 hi], .bool true]) := Lib.hid (by unfold unRef; rw [hu])
  have HAN : Hid (unAns L v = .tuple #[.agg #[.int .i64 q, .int .i64 j, .int .i64 lo, .int .i64 hi], .int .i64 0]) := Lib.hid (by unfold unAns; rw [hu])
  have HFU : Hid (∀ (G : Hds) (u : World), LnAt u u.heap.size L G → Calls Try.prog 62 #[.agg #[.string L.name, .slice G.j.A L.js.length G.j.c, .slice G.b.A L.bs.length G.b.c, .slice G.s.A L.ss.length G.s.c], (.agg #[.int .i64 v.len, .int .i64 v.clear, .int .i64 v.step])] u fun e u' => e = .returned (.tuple #[.agg #[.int .i64 q, .int .i64 j, .int .i64 lo, .int .i64 hi], .int .i64 0]) ∧ Below u.heap.size u u') := Lib.hid (fun G u hG => by
    have h := FirstUnclear_good HR.out HC.out G HL.out v HV.out u hG
    rw [HAN.out] at h
    exact h)
  obtain ⟨n, hn⟩ : ∃ n, clrV v.clear (devsN L v p (benN L v p)) = n := ⟨_, rfl⟩
  obtain ⟨p0, pT⟩ := inB_iff.1 hp
  have HP0 := Lib.hid p0
  have HPT := Lib.hid (show p + v.len ≤ placeL L.bs L.bs.length by omega)
  have HPE : Hid ((if inB p 0 (placeL L.bs L.bs.length - v.len) && (p.tmod v.step == 0) then (0 : Int) else 6) = 0) := Lib.hid (by rw [hp, ht]; rfl)
  have HCL : Hid (clrV v.clear (devsL L v p (benL L v p L.js.length)) = n) := Lib.hid (by rw [benL_all hr hv p0 HPT.out, devsL_N]; exact hn)
  have HNN := Lib.hid hn
  have HPP := Lib.hid hp
  have HPM := Lib.hid ht
  have HCA : Hid (∀ (G : Hds) (u : World), LnAt u u.heap.size L G → Calls Try.prog 61 #[.agg #[.string L.name, .slice G.j.A L.js.length G.j.c, .slice G.b.A L.bs.length G.b.c, .slice G.s.A L.ss.length G.s.c], (.agg #[.int .i64 v.len, .int .i64 v.clear, .int .i64 v.step]), .int .i64 p] u fun e u' => e = .returned (.tuple #[.int .i64 n, .int .i64 0]) ∧ Below u.heap.size u u') := Lib.hid (fun G u hG => by
    have h := ClearAt_good HR.out HC.out G HL.out v HV.out p HPP.out HPM.out u hG
    rw [HNN.out] at h
    exact h)
  clear hr hck hv hm hu hn hp ht p0 pT
  go_enter Try.func10, Try.ntmps10
  go_wp2_with fail
  refine (awake_any _).mono ?_
  rintro e w1 ⟨rfl, hb1⟩
  have S1 := Lib.hid (QV.from hb1 S0.out)
  clear hb1 S0
  obtain ⟨c0, c1, c2, c3⟩ := S1.out.box.four
  go_wp2_with fail
  refine (HF.out _ S1.out.lnW).mono ?_
  rintro e w2 ⟨rfl, hb2⟩
  have S2 := Lib.hid (QV.from hb2 S1.out)
  clear hb2 S1 c0 c1 c2 c3
  obtain ⟨c0, c1, c2, c3⟩ := S2.out.box.four
  go_wp2_with fail
  refine (LineErr_at HC.out H HL.out _ S2.out.lnW).mono ?_
  rintro e w3 ⟨rfl, hb3⟩
  have S3 := Lib.hid (QV.from hb3 S2.out)
  clear hb3 S2 c0 c1 c2 c3
  obtain ⟨c0, c1, c2, c3⟩ := S3.out.box.four
  obtain ⟨v0, v1, v2⟩ := S3.out.veh.three
  go_wp2_with fail
  refine (VehicleErr_any v _).mono ?_
  rintro e w4 ⟨rfl, hb4⟩
  rw [HVE.out]
  have S4 := Lib.hid (QV.from hb4 S3.out)
  clear hb4 S3 c0 c1 c2 c3 v0 v1 v2
  obtain ⟨c0, c1, c2, c3⟩ := S4.out.box.four
  obtain ⟨v0, v1, v2⟩ := S4.out.veh.three
  go_wp2_with fail
  refine (lawPoses_any HR.out HV.out HM.out H HL.out _ S4.out.lnW).mono ?_
  rintro e w5 ⟨rfl, hb5⟩
  have S5 := Lib.hid (QV.from hb5 S4.out)
  clear hb5 S4 c0 c1 c2 c3 v0 v1 v2
  obtain ⟨c0, c1, c2, c3⟩ := S5.out.box.four
  obtain ⟨v0, v1, v2⟩ := S5.out.veh.three
  have hsz := S5.out.veh.lt
  go_upto_region 10 with fail
  go_region_held3 (fun W => QV w W L H v ∧ W.cell? ⟨w.heap.size, 0, none⟩ = some (.string L.name) ∧ W.cell? ⟨w.heap.size, 1, none⟩ = some (.slice H.j.A L.js.length H.j.c) ∧ W.cell? ⟨w.heap.size, 2, none⟩ = some (.slice H.b.A L.bs.length H.b.c) ∧ W.cell? ⟨w.heap.size, 3, none⟩ = some (.slice H.s.A L.ss.length H.s.c) ∧ W.cell? ⟨w.heap.size + 1, 0, none⟩ = some (.int .i64 v.len) ∧ W.cell? ⟨w.heap.size + 1, 1, none⟩ = some (.int .i64 v.clear) ∧ W.cell? ⟨w.heap.size + 1, 2, none⟩ = some (.int .i64 v.step))
    ((go_split_ands; first | exact QV.all (by assumption) | exact QV.all (QV.from (by assumption) (by assumption)) | exact QV.all S5.out.drew | fail "keep"))
    ((first | (go_at_call 18; go_split_ands; refine (Copy_at L H HL.out HH.out _ (QV.lnW (w := w) (v := v) (by assumption))).mono ?_; rintro e wA ⟨GA, rfl, hGA, hbA⟩; have AA := Lib.hid hGA; clear hGA) | (go_at_call 61; go_split_ands; refine (HCA.out GA _ (by first | exact AA.out | exact AA.out.allocW _)).mono ?_; rintro e wB ⟨rfl, hbB⟩) | fail "arm"))
  all_goals
    go_split_ands
    have S20 : Hid (QV w wB L H v) := Lib.hid (by assumption)
    clear S5 hbA hbB AA hsz c0 c1 c2 c3 v0 v1 v2
    have hsz := S20.out.veh.lt
    obtain ⟨c0, c1, c2, c3⟩ := S20.out.box.four
    obtain ⟨v0, v1, v2⟩ := S20.out.veh.three
    go_upto_region 11 with fail
    go_cut [10, 11] from 41 (fun s10 s11 wx => ∃ g : Nat, s10 = .pointer (some ⟨g, 0, none⟩) ∧ s11 = .int .i64 0 ∧ XD w wx L H v g q j lo hi)
    case first =>
      go_region_held3 (fun W => QV w W L H v ∧ W.cell? ⟨w.heap.size, 0, none⟩ = some (.string L.name) ∧ W.cell? ⟨w.heap.size, 1, none⟩ = some (.slice H.j.A L.js.length H.j.c) ∧ W.cell? ⟨w.heap.size, 2, none⟩ = some (.slice H.b.A L.bs.length H.b.c) ∧ W.cell? ⟨w.heap.size, 3, none⟩ = some (.slice H.s.A L.ss.length H.s.c) ∧ W.cell? ⟨w.heap.size + 1, 0, none⟩ = some (.int .i64 v.len) ∧ W.cell? ⟨w.heap.size + 1, 1, none⟩ = some (.int .i64 v.clear) ∧ W.cell? ⟨w.heap.size + 1, 2, none⟩ = some (.int .i64 v.step))
        ((go_split_ands; refine QV.all ?_; (first | assumption | exact S20.out.drew | (repeat (first | assumption | exact S20.out | refine QV.alloc ?_ _ | refine QV.drew ?_ | (refine QV.set ?_ (by first | omega | (simp; omega)) _)))); done))
        ((first | (go_at_call 18; go_split_ands; refine (Copy_at L H HL.out HH.out _ (QV.lnW (w := w) (v := v) (by assumption))).mono ?_; rintro e wC ⟨GC, rfl, hGC, hbC⟩; have SC : QV w wC L H v := QV.from hbC (by assumption); have zC := SC.veh.lt; have AC := Lib.hid hGC; clear hGC; (first | (have N0 : Bk wC wB.heap.size 91 #[.int .i64 0, .int .i64 0, .int .i64 0, .int .i64 0] := Bk.call ((Bk.new wB 91 #[.int .i64 0, .int .i64 0, .int .i64 0, .int .i64 0]).drew) hbC; obtain ⟨n0, n1, n2, n3⟩ := N0.four; obtain ⟨nf0, nf1, nf2, nf3⟩ : _ ∧ _ ∧ _ ∧ _ := ⟨N0.frozen 0, N0.frozen 1, N0.frozen 2, N0.frozen 3⟩) | skip)) | (go_at_call 62; go_split_ands; refine (HFU.out GC _ (by first | exact AC.out | exact AC.out.allocW _)).mono ?_; rintro e wD ⟨rfl, hbD⟩; have SD : QV w wD L H v := QV.from hbD (by assumption); have zD := SD.veh.lt; (first | (have M0 : Bk wD wB.heap.size 91 #[.int .i64 0, .int .i64 0, .int .i64 0, .int .i64 0] := Bk.call N0 hbD; obtain ⟨m0, m1, m2, m3⟩ := M0.four; obtain ⟨mf0, mf1, mf2, mf3⟩ : _ ∧ _ ∧ _ ∧ _ := ⟨M0.frozen 0, M0.frozen 1, M0.frozen 2, M0.frozen 3⟩) | skip); (first | (have K0 : Bk wD wC.heap.size 91 #[.int .i64 0, .int .i64 0, .int .i64 0, .int .i64 0] := Bk.call (Bk.new wC 91 #[.int .i64 0, .int .i64 0, .int .i64 0, .int .i64 0]) hbD; obtain ⟨k0, k1, k2, k3⟩ := K0.four; obtain ⟨kf0, kf1, kf2, kf3⟩ : _ ∧ _ ∧ _ ∧ _ := ⟨K0.frozen 0, K0.frozen 1, K0.frozen 2, K0.frozen 3⟩) | skip)) | fail "arm"))
      all_goals
        go_split_ands
        go_wp2_with fail
        go_meet
        refine ⟨_, rfl, rfl, by assumption, ?_, ?_, ?_, ?_⟩
      all_goals (first | (go_simp; done) | (simp [*]; done) | skip)
    case rest =>
      obtain ⟨g, rfl, rfl, hV⟩ := hcut
      have D0 := Lib.hid hV
      clear hV S20 c0 c1 c2 c3 v0 v1 v2 hsz
      obtain ⟨c0, c1, c2, c3⟩ := D0.out.s.box.four
      obtain ⟨v0, v1, v2⟩ := D0.out.s.veh.three
      have k0 := D0.out.k0
      have k1 := D0.out.k1
      have k2 := D0.out.k2
      have k3 := D0.out.k3
      go_wp2_with fail
      refine (refFirstUnclear_any HR.out HV.out H HL.out _ D0.out.s.lnW).mono ?_
      rintro e w31 ⟨rfl, hb31⟩
      rw [HRU.out]
      have D31 := Lib.hid (XD.from hb31 D0.out)
      clear hb31 D0 c0 c1 c2 c3 v0 v1 v2 k0 k1 k2 k3
      have E0 := Lib.hid (D31.out.alloc (.cells #[.int .i64 q, .int .i64 j, .int .i64 lo, .int .i64 hi] 91))
      have Y0 := Lib.hid (Bk.new w31 91 #[.int .i64 q, .int .i64 j, .int .i64 lo, .int .i64 hi])
      clear D31
      obtain ⟨c0, c1, c2, c3⟩ := E0.out.s.box.four
      obtain ⟨v0, v1, v2⟩ := E0.out.s.veh.three
      have k0 := E0.out.k0
      have k1 := E0.out.k1
      have k2 := E0.out.k2
      have k3 := E0.out.k3
      obtain ⟨y0, y1, y2, y3⟩ := Y0.out.four
      go_wp2_with fail
      refine (PoseErr_at HR.out HV.out HPE.out H HL.out _ E0.out.s.lnW).mono ?_
      rintro e w32 ⟨rfl, hb32⟩
      have D32 := Lib.hid (XD.from hb32 E0.out)
      clear hb32 E0 c0 c1 c2 c3 v0 v1 v2 k0 k1 k2 k3 y0 y1 y2 y3
      obtain ⟨c0, c1, c2, c3⟩ := D32.out.s.box.four
      obtain ⟨v0, v1, v2⟩ := D32.out.s.veh.three
      have k0 := D32.out.k0
      have k1 := D32.out.k1
      have k2 := D32.out.k2
      have k3 := D32.out.k3
      go_wp2_with fail
      refine (refClearAt_any HR.out HV.out HP0.out HPT.out H HL.out _ D32.out.s.lnW).mono ?_
      rintro e w33 ⟨rfl, hb33⟩
      rw [HCL.out]
      have D33 := Lib.hid (XD.from hb33 D32.out)
      clear hb33 D32 c0 c1 c2 c3 v0 v1 v2 k0 k1 k2 k3
      go_wp2_with fail
      go_ret
      exact ⟨rfl, D33.out.s.bl⟩

set_option maxHeartbeats 16000000 in
set_option maxRecDepth 100000 in
theorem LinePoses_some_no {L : Ll} (hL : L.ok) {H : Hds} (hH : HdsOk H) (hF : ∀ w : World, LnAt w w.heap.size L H → Calls Try.prog 16 #[(.agg #[.string L.name, .slice H.j.A L.js.length H.j.c, .slice H.b.A L.bs.length H.b.c, .slice H.s.A L.ss.length H.s.c])] w fun e w' => e = .returned (.bool true) ∧ Below w.heap.size w w') {v : Lv} {p : Int} (hr : Right L) (hck : ckLine L = ((0, 0), 0)) (hv : vErr v = 0) (hm : decide (placeL L.bs L.bs.length / v.step ≤ 100) = true) {q j lo hi : Int} (hu : unL L v = some (q, j, lo, hi)) (hp : (inB p 0 (placeL L.bs L.bs.length - v.len) && (p.tmod v.step == 0)) = false) (w : World) (hA : LnAt w w.heap.size L H) :
    Calls Try.prog 10 #[(.agg #[.string L.name, .slice H.j.A L.js.length H.j.c, .slice H.b.A L.bs.length H.b.c, .slice H.s.A L.ss.length H.s.c]), (.agg #[.int .i64 v.len, .int .i64 v.clear, .int .i64 v.step]), .int .i64 p] w fun e w' => e = .returned (.bool true) ∧ Below w.heap.size w w' := by
  have S0 := Lib.hid (QV.start (v := v) hA)
  have HF := Lib.hid hF
  have HH := Lib.hid hH
  have HL := Lib.hid hL
  clear hA hF hH hL
  have HC := Lib.hid hck
  have HR := Lib.hid hr
  have HV := Lib.hid hv
  have HVE := Lib.hid hv
  have HM := Lib.hid hm
  have HRU : Hid (unRef L v = .tuple #[.agg #[.int .i64 q, .int .i64 j, .int .i64 lo, .int .i64 hi], .bool true]) := Lib.hid (by unfold unRef; rw [hu])
  have HAN : Hid (unAns L v = .tuple #[.agg #[.int .i64 q, .int .i64 j, .int .i64 lo, .int .i64 hi], .int .i64 0]) := Lib.hid (by unfold unAns; rw [hu])
  have HFU : Hid (∀ (G : Hds) (u : World), LnAt u u.heap.size L G → Calls Try.prog 62 #[.agg #[.string L.name, .slice G.j.A L.js.length G.j.c, .slice G.b.A L.bs.length G.b.c, .slice G.s.A L.ss.length G.s.c], (.agg #[.int .i64 v.len, .int .i64 v.clear, .int .i64 v.step])] u fun e u' => e = .returned (.tuple #[.agg #[.int .i64 q, .int .i64 j, .int .i64 lo, .int .i64 hi], .int .i64 0]) ∧ Below u.heap.size u u') := Lib.hid (fun G u hG => by
    have h := FirstUnclear_good HR.out HC.out G HL.out v HV.out u hG
    rw [HAN.out] at h
    exact h)
  have HPE : Hid ((if inB p 0 (placeL L.bs L.bs.length - v.len) && (p.tmod v.step == 0) then (0 : Int) else 6) = 6) := Lib.hid (by rw [hp]; rfl)
  have hpe : poseErr L v p = 6 := by
    unfold poseErr rideErr
    rw [hck, hv]
    simp [hp]
  have HPR := Lib.hid hpe
  have HCA : Hid (∀ (G : Hds) (u : World), LnAt u u.heap.size L G → Calls Try.prog 61 #[.agg #[.string L.name, .slice G.j.A L.js.length G.j.c, .slice G.b.A L.bs.length G.b.c, .slice G.s.A L.ss.length G.s.c], (.agg #[.int .i64 v.len, .int .i64 v.clear, .int .i64 v.step]), .int .i64 p] u fun e u' => e = .returned (.tuple #[.int .i64 0, .int .i64 6]) ∧ Below u.heap.size u u') := Lib.hid (fun G u hG => ClearAt_err HPR.out (by decide) G HL.out u hG)
  clear hr hck hv hm hu hp hpe
  go_enter Try.func10, Try.ntmps10
  go_wp2_with fail
  refine (awake_any _).mono ?_
  rintro e w1 ⟨rfl, hb1⟩
  have S1 := Lib.hid (QV.from hb1 S0.out)
  clear hb1 S0
  obtain ⟨c0, c1, c2, c3⟩ := S1.out.box.four
  go_wp2_with fail
  refine (HF.out _ S1.out.lnW).mono ?_
  rintro e w2 ⟨rfl, hb2⟩
  have S2 := Lib.hid (QV.from hb2 S1.out)
  clear hb2 S1 c0 c1 c2 c3
  obtain ⟨c0, c1, c2, c3⟩ := S2.out.box.four
  go_wp2_with fail
  refine (LineErr_at HC.out H HL.out _ S2.out.lnW).mono ?_
  rintro e w3 ⟨rfl, hb3⟩
  have S3 := Lib.hid (QV.from hb3 S2.out)
  clear hb3 S2 c0 c1 c2 c3
  obtain ⟨c0, c1, c2, c3⟩ := S3.out.box.four
  obtain ⟨v0, v1, v2⟩ := S3.out.veh.three
  go_wp2_with fail
  refine (VehicleErr_any v _).mono ?_
  rintro e w4 ⟨rfl, hb4⟩
  rw [HVE.out]
  have S4 := Lib.hid (QV.from hb4 S3.out)
  clear hb4 S3 c0 c1 c2 c3 v0 v1 v2
  obtain ⟨c0, c1, c2, c3⟩ := S4.out.box.four
  obtain ⟨v0, v1, v2⟩ := S4.out.veh.three
  go_wp2_with fail
  refine (lawPoses_any HR.out HV.out HM.out H HL.out _ S4.out.lnW).mono ?_
  rintro e w5 ⟨rfl, hb5⟩
  have S5 := Lib.hid (QV.from hb5 S4.out)
  clear hb5 S4 c0 c1 c2 c3 v0 v1 v2
  obtain ⟨c0, c1, c2, c3⟩ := S5.out.box.four
  obtain ⟨v0, v1, v2⟩ := S5.out.veh.three
  have hsz := S5.out.veh.lt
  go_upto_region 10 with fail
  go_region_held3 (fun W => QV w W L H v ∧ W.cell? ⟨w.heap.size, 0, none⟩ = some (.string L.name) ∧ W.cell? ⟨w.heap.size, 1, none⟩ = some (.slice H.j.A L.js.length H.j.c) ∧ W.cell? ⟨w.heap.size, 2, none⟩ = some (.slice H.b.A L.bs.length H.b.c) ∧ W.cell? ⟨w.heap.size, 3, none⟩ = some (.slice H.s.A L.ss.length H.s.c) ∧ W.cell? ⟨w.heap.size + 1, 0, none⟩ = some (.int .i64 v.len) ∧ W.cell? ⟨w.heap.size + 1, 1, none⟩ = some (.int .i64 v.clear) ∧ W.cell? ⟨w.heap.size + 1, 2, none⟩ = some (.int .i64 v.step))
    ((go_split_ands; first | exact QV.all (by assumption) | exact QV.all (QV.from (by assumption) (by assumption)) | exact QV.all S5.out.drew | fail "keep"))
    ((first | (go_at_call 18; go_split_ands; refine (Copy_at L H HL.out HH.out _ (QV.lnW (w := w) (v := v) (by assumption))).mono ?_; rintro e wA ⟨GA, rfl, hGA, hbA⟩; have AA := Lib.hid hGA; clear hGA) | (go_at_call 61; go_split_ands; refine (HCA.out GA _ (by first | exact AA.out | exact AA.out.allocW _)).mono ?_; rintro e wB ⟨rfl, hbB⟩) | fail "arm"))
  all_goals
    go_split_ands
    have S20 : Hid (QV w wB L H v) := Lib.hid (by assumption)
    clear S5 hbA hbB AA hsz c0 c1 c2 c3 v0 v1 v2
    have hsz := S20.out.veh.lt
    obtain ⟨c0, c1, c2, c3⟩ := S20.out.box.four
    obtain ⟨v0, v1, v2⟩ := S20.out.veh.three
    go_upto_region 11 with fail
    go_cut [10, 11] from 41 (fun s10 s11 wx => ∃ g : Nat, s10 = .pointer (some ⟨g, 0, none⟩) ∧ s11 = .int .i64 0 ∧ XD w wx L H v g q j lo hi)
    case first =>
      go_region_held3 (fun W => QV w W L H v ∧ W.cell? ⟨w.heap.size, 0, none⟩ = some (.string L.name) ∧ W.cell? ⟨w.heap.size, 1, none⟩ = some (.slice H.j.A L.js.length H.j.c) ∧ W.cell? ⟨w.heap.size, 2, none⟩ = some (.slice H.b.A L.bs.length H.b.c) ∧ W.cell? ⟨w.heap.size, 3, none⟩ = some (.slice H.s.A L.ss.length H.s.c) ∧ W.cell? ⟨w.heap.size + 1, 0, none⟩ = some (.int .i64 v.len) ∧ W.cell? ⟨w.heap.size + 1, 1, none⟩ = some (.int .i64 v.clear) ∧ W.cell? ⟨w.heap.size + 1, 2, none⟩ = some (.int .i64 v.step))
        ((go_split_ands; refine QV.all ?_; (first | assumption | exact S20.out.drew | (repeat (first | assumption | exact S20.out | refine QV.alloc ?_ _ | refine QV.drew ?_ | (refine QV.set ?_ (by first | omega | (simp; omega)) _)))); done))
        ((first | (go_at_call 18; go_split_ands; refine (Copy_at L H HL.out HH.out _ (QV.lnW (w := w) (v := v) (by assumption))).mono ?_; rintro e wC ⟨GC, rfl, hGC, hbC⟩; have SC : QV w wC L H v := QV.from hbC (by assumption); have zC := SC.veh.lt; have AC := Lib.hid hGC; clear hGC; (first | (have N0 : Bk wC wB.heap.size 91 #[.int .i64 0, .int .i64 0, .int .i64 0, .int .i64 0] := Bk.call ((Bk.new wB 91 #[.int .i64 0, .int .i64 0, .int .i64 0, .int .i64 0]).drew) hbC; obtain ⟨n0, n1, n2, n3⟩ := N0.four; obtain ⟨nf0, nf1, nf2, nf3⟩ : _ ∧ _ ∧ _ ∧ _ := ⟨N0.frozen 0, N0.frozen 1, N0.frozen 2, N0.frozen 3⟩) | skip)) | (go_at_call 62; go_split_ands; refine (HFU.out GC _ (by first | exact AC.out | exact AC.out.allocW _)).mono ?_; rintro e wD ⟨rfl, hbD⟩; have SD : QV w wD L H v := QV.from hbD (by assumption); have zD := SD.veh.lt; (first | (have M0 : Bk wD wB.heap.size 91 #[.int .i64 0, .int .i64 0, .int .i64 0, .int .i64 0] := Bk.call N0 hbD; obtain ⟨m0, m1, m2, m3⟩ := M0.four; obtain ⟨mf0, mf1, mf2, mf3⟩ : _ ∧ _ ∧ _ ∧ _ := ⟨M0.frozen 0, M0.frozen 1, M0.frozen 2, M0.frozen 3⟩) | skip); (first | (have K0 : Bk wD wC.heap.size 91 #[.int .i64 0, .int .i64 0, .int .i64 0, .int .i64 0] := Bk.call (Bk.new wC 91 #[.int .i64 0, .int .i64 0, .int .i64 0, .int .i64 0]) hbD; obtain ⟨k0, k1, k2, k3⟩ := K0.four; obtain ⟨kf0, kf1, kf2, kf3⟩ : _ ∧ _ ∧ _ ∧ _ := ⟨K0.frozen 0, K0.frozen 1, K0.frozen 2, K0.frozen 3⟩) | skip)) | fail "arm"))
      all_goals
        go_split_ands
        go_wp2_with fail
        go_meet
        refine ⟨_, rfl, rfl, by assumption, ?_, ?_, ?_, ?_⟩
      all_goals (first | (go_simp; done) | (simp [*]; done) | skip)
    case rest =>
      obtain ⟨g, rfl, rfl, hV⟩ := hcut
      have D0 := Lib.hid hV
      clear hV S20 c0 c1 c2 c3 v0 v1 v2 hsz
      obtain ⟨c0, c1, c2, c3⟩ := D0.out.s.box.four
      obtain ⟨v0, v1, v2⟩ := D0.out.s.veh.three
      have k0 := D0.out.k0
      have k1 := D0.out.k1
      have k2 := D0.out.k2
      have k3 := D0.out.k3
      go_wp2_with fail
      refine (refFirstUnclear_any HR.out HV.out H HL.out _ D0.out.s.lnW).mono ?_
      rintro e w31 ⟨rfl, hb31⟩
      rw [HRU.out]
      have D31 := Lib.hid (XD.from hb31 D0.out)
      clear hb31 D0 c0 c1 c2 c3 v0 v1 v2 k0 k1 k2 k3
      have E0 := Lib.hid (D31.out.alloc (.cells #[.int .i64 q, .int .i64 j, .int .i64 lo, .int .i64 hi] 91))
      have Y0 := Lib.hid (Bk.new w31 91 #[.int .i64 q, .int .i64 j, .int .i64 lo, .int .i64 hi])
      clear D31
      obtain ⟨c0, c1, c2, c3⟩ := E0.out.s.box.four
      obtain ⟨v0, v1, v2⟩ := E0.out.s.veh.three
      have k0 := E0.out.k0
      have k1 := E0.out.k1
      have k2 := E0.out.k2
      have k3 := E0.out.k3
      obtain ⟨y0, y1, y2, y3⟩ := Y0.out.four
      go_wp2_with fail
      refine (PoseErr_at HR.out HV.out HPE.out H HL.out _ E0.out.s.lnW).mono ?_
      rintro e w32 ⟨rfl, hb32⟩
      have D32 := Lib.hid (XD.from hb32 E0.out)
      clear hb32 E0 c0 c1 c2 c3 v0 v1 v2 k0 k1 k2 k3 y0 y1 y2 y3
      go_wp2_with fail
      go_ret
      exact ⟨rfl, D32.out.s.bl⟩

set_option maxHeartbeats 16000000 in
set_option maxRecDepth 100000 in
theorem LinePoses_none_at {L : Ll} (hL : L.ok) {H : Hds} (hH : HdsOk H) (hF : ∀ w : World, LnAt w w.heap.size L H → Calls Try.prog 16 #[(.agg #[.string L.name, .slice H.j.A L.js.length H.j.c, .slice H.b.A L.bs.length H.b.c, .slice H.s.A L.ss.length H.s.c])] w fun e w' => e = .returned (.bool true) ∧ Below w.heap.size w w') {v : Lv} {p : Int} (hr : Right L) (hck : ckLine L = ((0, 0), 0)) (hv : vErr v = 0) (hm : decide (placeL L.bs L.bs.length / v.step ≤ 100) = true) (hu : unL L v = none) (hp : inB p 0 (placeL L.bs L.bs.length - v.len) = true) (ht : p.tmod v.step = 0) (w : World) (hA : LnAt w w.heap.size L H) :
    Calls Try.prog 10 #[(.agg #[.string L.name, .slice H.j.A L.js.length H.j.c, .slice H.b.A L.bs.length H.b.c, .slice H.s.A L.ss.length H.s.c]), (.agg #[.int .i64 v.len, .int .i64 v.clear, .int .i64 v.step]), .int .i64 p] w fun e w' => e = .returned (.bool true) ∧ Below w.heap.size w w' := by
  have S0 := Lib.hid (QV.start (v := v) hA)
  have HF := Lib.hid hF
  have HH := Lib.hid hH
  have HL := Lib.hid hL
  clear hA hF hH hL
  have HC := Lib.hid hck
  have HR := Lib.hid hr
  have HV := Lib.hid hv
  have HVE := Lib.hid hv
  have HM := Lib.hid hm
  have HRU : Hid (unRef L v = .tuple #[.agg #[.int .i64 0, .int .i64 0, .int .i64 0, .int .i64 0], .bool false]) := Lib.hid (by unfold unRef; rw [hu])
  have HAN : Hid (unAns L v = .tuple #[.agg #[.int .i64 0, .int .i64 0, .int .i64 0, .int .i64 0], .int .i64 12]) := Lib.hid (by unfold unAns; rw [hu])
  have HFU : Hid (∀ (G : Hds) (u : World), LnAt u u.heap.size L G → Calls Try.prog 62 #[.agg #[.string L.name, .slice G.j.A L.js.length G.j.c, .slice G.b.A L.bs.length G.b.c, .slice G.s.A L.ss.length G.s.c], (.agg #[.int .i64 v.len, .int .i64 v.clear, .int .i64 v.step])] u fun e u' => e = .returned (.tuple #[.agg #[.int .i64 0, .int .i64 0, .int .i64 0, .int .i64 0], .int .i64 12]) ∧ Below u.heap.size u u') := Lib.hid (fun G u hG => by
    have h := FirstUnclear_good HR.out HC.out G HL.out v HV.out u hG
    rw [HAN.out] at h
    exact h)
  obtain ⟨n, hn⟩ : ∃ n, clrV v.clear (devsN L v p (benN L v p)) = n := ⟨_, rfl⟩
  obtain ⟨p0, pT⟩ := inB_iff.1 hp
  have HP0 := Lib.hid p0
  have HPT := Lib.hid (show p + v.len ≤ placeL L.bs L.bs.length by omega)
  have HPE : Hid ((if inB p 0 (placeL L.bs L.bs.length - v.len) && (p.tmod v.step == 0) then (0 : Int) else 6) = 0) := Lib.hid (by rw [hp, ht]; rfl)
  have HCL : Hid (clrV v.clear (devsL L v p (benL L v p L.js.length)) = n) := Lib.hid (by rw [benL_all hr hv p0 HPT.out, devsL_N]; exact hn)
  have HNN := Lib.hid hn
  have HPP := Lib.hid hp
  have HPM := Lib.hid ht
  have HCA : Hid (∀ (G : Hds) (u : World), LnAt u u.heap.size L G → Calls Try.prog 61 #[.agg #[.string L.name, .slice G.j.A L.js.length G.j.c, .slice G.b.A L.bs.length G.b.c, .slice G.s.A L.ss.length G.s.c], (.agg #[.int .i64 v.len, .int .i64 v.clear, .int .i64 v.step]), .int .i64 p] u fun e u' => e = .returned (.tuple #[.int .i64 n, .int .i64 0]) ∧ Below u.heap.size u u') := Lib.hid (fun G u hG => by
    have h := ClearAt_good HR.out HC.out G HL.out v HV.out p HPP.out HPM.out u hG
    rw [HNN.out] at h
    exact h)
  clear hr hck hv hm hu hn hp ht p0 pT
  go_enter Try.func10, Try.ntmps10
  go_wp2_with fail
  refine (awake_any _).mono ?_
  rintro e w1 ⟨rfl, hb1⟩
  have S1 := Lib.hid (QV.from hb1 S0.out)
  clear hb1 S0
  obtain ⟨c0, c1, c2, c3⟩ := S1.out.box.four
  go_wp2_with fail
  refine (HF.out _ S1.out.lnW).mono ?_
  rintro e w2 ⟨rfl, hb2⟩
  have S2 := Lib.hid (QV.from hb2 S1.out)
  clear hb2 S1 c0 c1 c2 c3
  obtain ⟨c0, c1, c2, c3⟩ := S2.out.box.four
  go_wp2_with fail
  refine (LineErr_at HC.out H HL.out _ S2.out.lnW).mono ?_
  rintro e w3 ⟨rfl, hb3⟩
  have S3 := Lib.hid (QV.from hb3 S2.out)
  clear hb3 S2 c0 c1 c2 c3
  obtain ⟨c0, c1, c2, c3⟩ := S3.out.box.four
  obtain ⟨v0, v1, v2⟩ := S3.out.veh.three
  go_wp2_with fail
  refine (VehicleErr_any v _).mono ?_
  rintro e w4 ⟨rfl, hb4⟩
  rw [HVE.out]
  have S4 := Lib.hid (QV.from hb4 S3.out)
  clear hb4 S3 c0 c1 c2 c3 v0 v1 v2
  obtain ⟨c0, c1, c2, c3⟩ := S4.out.box.four
  obtain ⟨v0, v1, v2⟩ := S4.out.veh.three
  go_wp2_with fail
  refine (lawPoses_any HR.out HV.out HM.out H HL.out _ S4.out.lnW).mono ?_
  rintro e w5 ⟨rfl, hb5⟩
  have S5 := Lib.hid (QV.from hb5 S4.out)
  clear hb5 S4 c0 c1 c2 c3 v0 v1 v2
  obtain ⟨c0, c1, c2, c3⟩ := S5.out.box.four
  obtain ⟨v0, v1, v2⟩ := S5.out.veh.three
  have hsz := S5.out.veh.lt
  go_upto_region 10 with fail
  go_region_held3 (fun W => QV w W L H v ∧ W.cell? ⟨w.heap.size, 0, none⟩ = some (.string L.name) ∧ W.cell? ⟨w.heap.size, 1, none⟩ = some (.slice H.j.A L.js.length H.j.c) ∧ W.cell? ⟨w.heap.size, 2, none⟩ = some (.slice H.b.A L.bs.length H.b.c) ∧ W.cell? ⟨w.heap.size, 3, none⟩ = some (.slice H.s.A L.ss.length H.s.c) ∧ W.cell? ⟨w.heap.size + 1, 0, none⟩ = some (.int .i64 v.len) ∧ W.cell? ⟨w.heap.size + 1, 1, none⟩ = some (.int .i64 v.clear) ∧ W.cell? ⟨w.heap.size + 1, 2, none⟩ = some (.int .i64 v.step))
    ((go_split_ands; first | exact QV.all (by assumption) | exact QV.all (QV.from (by assumption) (by assumption)) | exact QV.all S5.out.drew | fail "keep"))
    ((first | (go_at_call 18; go_split_ands; refine (Copy_at L H HL.out HH.out _ (QV.lnW (w := w) (v := v) (by assumption))).mono ?_; rintro e wA ⟨GA, rfl, hGA, hbA⟩; have AA := Lib.hid hGA; clear hGA) | (go_at_call 61; go_split_ands; refine (HCA.out GA _ (by first | exact AA.out | exact AA.out.allocW _)).mono ?_; rintro e wB ⟨rfl, hbB⟩) | fail "arm"))
  all_goals
    go_split_ands
    have S20 : Hid (QV w wB L H v) := Lib.hid (by assumption)
    clear S5 hbA hbB AA hsz c0 c1 c2 c3 v0 v1 v2
    have hsz := S20.out.veh.lt
    obtain ⟨c0, c1, c2, c3⟩ := S20.out.box.four
    obtain ⟨v0, v1, v2⟩ := S20.out.veh.three
    go_upto_region 11 with fail
    go_cut [10, 11] from 41 (fun s10 s11 wx => ∃ g : Nat, s10 = .pointer (some ⟨g, 0, none⟩) ∧ s11 = .int .i64 12 ∧ XD w wx L H v g 0 0 0 0)
    case first =>
      go_region_held3 (fun W => QV w W L H v ∧ W.cell? ⟨w.heap.size, 0, none⟩ = some (.string L.name) ∧ W.cell? ⟨w.heap.size, 1, none⟩ = some (.slice H.j.A L.js.length H.j.c) ∧ W.cell? ⟨w.heap.size, 2, none⟩ = some (.slice H.b.A L.bs.length H.b.c) ∧ W.cell? ⟨w.heap.size, 3, none⟩ = some (.slice H.s.A L.ss.length H.s.c) ∧ W.cell? ⟨w.heap.size + 1, 0, none⟩ = some (.int .i64 v.len) ∧ W.cell? ⟨w.heap.size + 1, 1, none⟩ = some (.int .i64 v.clear) ∧ W.cell? ⟨w.heap.size + 1, 2, none⟩ = some (.int .i64 v.step))
        ((go_split_ands; refine QV.all ?_; (first | assumption | exact S20.out.drew | (repeat (first | assumption | exact S20.out | refine QV.alloc ?_ _ | refine QV.drew ?_ | (refine QV.set ?_ (by first | omega | (simp; omega)) _)))); done))
        ((first | (go_at_call 18; go_split_ands; refine (Copy_at L H HL.out HH.out _ (QV.lnW (w := w) (v := v) (by assumption))).mono ?_; rintro e wC ⟨GC, rfl, hGC, hbC⟩; have SC : QV w wC L H v := QV.from hbC (by assumption); have zC := SC.veh.lt; have AC := Lib.hid hGC; clear hGC; (first | (have N0 : Bk wC wB.heap.size 91 #[.int .i64 0, .int .i64 0, .int .i64 0, .int .i64 0] := Bk.call ((Bk.new wB 91 #[.int .i64 0, .int .i64 0, .int .i64 0, .int .i64 0]).drew) hbC; obtain ⟨n0, n1, n2, n3⟩ := N0.four; obtain ⟨nf0, nf1, nf2, nf3⟩ : _ ∧ _ ∧ _ ∧ _ := ⟨N0.frozen 0, N0.frozen 1, N0.frozen 2, N0.frozen 3⟩) | skip)) | (go_at_call 62; go_split_ands; refine (HFU.out GC _ (by first | exact AC.out | exact AC.out.allocW _)).mono ?_; rintro e wD ⟨rfl, hbD⟩; have SD : QV w wD L H v := QV.from hbD (by assumption); have zD := SD.veh.lt; (first | (have M0 : Bk wD wB.heap.size 91 #[.int .i64 0, .int .i64 0, .int .i64 0, .int .i64 0] := Bk.call N0 hbD; obtain ⟨m0, m1, m2, m3⟩ := M0.four; obtain ⟨mf0, mf1, mf2, mf3⟩ : _ ∧ _ ∧ _ ∧ _ := ⟨M0.frozen 0, M0.frozen 1, M0.frozen 2, M0.frozen 3⟩) | skip); (first | (have K0 : Bk wD wC.heap.size 91 #[.int .i64 0, .int .i64 0, .int .i64 0, .int .i64 0] := Bk.call (Bk.new wC 91 #[.int .i64 0, .int .i64 0, .int .i64 0, .int .i64 0]) hbD; obtain ⟨k0, k1, k2, k3⟩ := K0.four; obtain ⟨kf0, kf1, kf2, kf3⟩ : _ ∧ _ ∧ _ ∧ _ := ⟨K0.frozen 0, K0.frozen 1, K0.frozen 2, K0.frozen 3⟩) | skip)) | fail "arm"))
      all_goals
        go_split_ands
        go_wp2_with fail
        go_meet
        refine ⟨_, rfl, rfl, by assumption, ?_, ?_, ?_, ?_⟩
      all_goals (first | (go_simp; done) | (simp [*]; done) | skip)
    case rest =>
      obtain ⟨g, rfl, rfl, hV⟩ := hcut
      have D0 := Lib.hid hV
      clear hV S20 c0 c1 c2 c3 v0 v1 v2 hsz
      obtain ⟨c0, c1, c2, c3⟩ := D0.out.s.box.four
      obtain ⟨v0, v1, v2⟩ := D0.out.s.veh.three
      have k0 := D0.out.k0
      have k1 := D0.out.k1
      have k2 := D0.out.k2
      have k3 := D0.out.k3
      go_wp2_with fail
      refine (refFirstUnclear_any HR.out HV.out H HL.out _ D0.out.s.lnW).mono ?_
      rintro e w31 ⟨rfl, hb31⟩
      rw [HRU.out]
      have D31 := Lib.hid (XD.from hb31 D0.out)
      clear hb31 D0 c0 c1 c2 c3 v0 v1 v2 k0 k1 k2 k3
      have E0 := Lib.hid (D31.out.alloc (.cells #[.int .i64 0, .int .i64 0, .int .i64 0, .int .i64 0] 91))
      have Y0 := Lib.hid (Bk.new w31 91 #[.int .i64 0, .int .i64 0, .int .i64 0, .int .i64 0])
      clear D31
      obtain ⟨c0, c1, c2, c3⟩ := E0.out.s.box.four
      obtain ⟨v0, v1, v2⟩ := E0.out.s.veh.three
      have k0 := E0.out.k0
      have k1 := E0.out.k1
      have k2 := E0.out.k2
      have k3 := E0.out.k3
      obtain ⟨y0, y1, y2, y3⟩ := Y0.out.four
      go_wp2_with fail
      refine (PoseErr_at HR.out HV.out HPE.out H HL.out _ E0.out.s.lnW).mono ?_
      rintro e w32 ⟨rfl, hb32⟩
      have D32 := Lib.hid (XD.from hb32 E0.out)
      clear hb32 E0 c0 c1 c2 c3 v0 v1 v2 k0 k1 k2 k3 y0 y1 y2 y3
      obtain ⟨c0, c1, c2, c3⟩ := D32.out.s.box.four
      obtain ⟨v0, v1, v2⟩ := D32.out.s.veh.three
      have k0 := D32.out.k0
      have k1 := D32.out.k1
      have k2 := D32.out.k2
      have k3 := D32.out.k3
      go_wp2_with fail
      refine (refClearAt_any HR.out HV.out HP0.out HPT.out H HL.out _ D32.out.s.lnW).mono ?_
      rintro e w33 ⟨rfl, hb33⟩
      rw [HCL.out]
      have D33 := Lib.hid (XD.from hb33 D32.out)
      clear hb33 D32 c0 c1 c2 c3 v0 v1 v2 k0 k1 k2 k3
      go_wp2_with fail
      go_ret
      exact ⟨rfl, D33.out.s.bl⟩

set_option maxHeartbeats 16000000 in
set_option maxRecDepth 100000 in
theorem LinePoses_none_no {L : Ll} (hL : L.ok) {H : Hds} (hH : HdsOk H) (hF : ∀ w : World, LnAt w w.heap.size L H → Calls Try.prog 16 #[(.agg #[.string L.name, .slice H.j.A L.js.length H.j.c, .slice H.b.A L.bs.length H.b.c, .slice H.s.A L.ss.length H.s.c])] w fun e w' => e = .returned (.bool true) ∧ Below w.heap.size w w') {v : Lv} {p : Int} (hr : Right L) (hck : ckLine L = ((0, 0), 0)) (hv : vErr v = 0) (hm : decide (placeL L.bs L.bs.length / v.step ≤ 100) = true) (hu : unL L v = none) (hp : (inB p 0 (placeL L.bs L.bs.length - v.len) && (p.tmod v.step == 0)) = false) (w : World) (hA : LnAt w w.heap.size L H) :
    Calls Try.prog 10 #[(.agg #[.string L.name, .slice H.j.A L.js.length H.j.c, .slice H.b.A L.bs.length H.b.c, .slice H.s.A L.ss.length H.s.c]), (.agg #[.int .i64 v.len, .int .i64 v.clear, .int .i64 v.step]), .int .i64 p] w fun e w' => e = .returned (.bool true) ∧ Below w.heap.size w w' := by
  have S0 := Lib.hid (QV.start (v := v) hA)
  have HF := Lib.hid hF
  have HH := Lib.hid hH
  have HL := Lib.hid hL
  clear hA hF hH hL
  have HC := Lib.hid hck
  have HR := Lib.hid hr
  have HV := Lib.hid hv
  have HVE := Lib.hid hv
  have HM := Lib.hid hm
  have HRU : Hid (unRef L v = .tuple #[.agg #[.int .i64 0, .int .i64 0, .int .i64 0, .int .i64 0], .bool false]) := Lib.hid (by unfold unRef; rw [hu])
  have HAN : Hid (unAns L v = .tuple #[.agg #[.int .i64 0, .int .i64 0, .int .i64 0, .int .i64 0], .int .i64 12]) := Lib.hid (by unfold unAns; rw [hu])
  have HFU : Hid (∀ (G : Hds) (u : World), LnAt u u.heap.size L G → Calls Try.prog 62 #[.agg #[.string L.name, .slice G.j.A L.js.length G.j.c, .slice G.b.A L.bs.length G.b.c, .slice G.s.A L.ss.length G.s.c], (.agg #[.int .i64 v.len, .int .i64 v.clear, .int .i64 v.step])] u fun e u' => e = .returned (.tuple #[.agg #[.int .i64 0, .int .i64 0, .int .i64 0, .int .i64 0], .int .i64 12]) ∧ Below u.heap.size u u') := Lib.hid (fun G u hG => by
    have h := FirstUnclear_good HR.out HC.out G HL.out v HV.out u hG
    rw [HAN.out] at h
    exact h)
  have HPE : Hid ((if inB p 0 (placeL L.bs L.bs.length - v.len) && (p.tmod v.step == 0) then (0 : Int) else 6) = 6) := Lib.hid (by rw [hp]; rfl)
  have hpe : poseErr L v p = 6 := by
    unfold poseErr rideErr
    rw [hck, hv]
    simp [hp]
  have HPR := Lib.hid hpe
  have HCA : Hid (∀ (G : Hds) (u : World), LnAt u u.heap.size L G → Calls Try.prog 61 #[.agg #[.string L.name, .slice G.j.A L.js.length G.j.c, .slice G.b.A L.bs.length G.b.c, .slice G.s.A L.ss.length G.s.c], (.agg #[.int .i64 v.len, .int .i64 v.clear, .int .i64 v.step]), .int .i64 p] u fun e u' => e = .returned (.tuple #[.int .i64 0, .int .i64 6]) ∧ Below u.heap.size u u') := Lib.hid (fun G u hG => ClearAt_err HPR.out (by decide) G HL.out u hG)
  clear hr hck hv hm hu hp hpe
  go_enter Try.func10, Try.ntmps10
  go_wp2_with fail
  refine (awake_any _).mono ?_
  rintro e w1 ⟨rfl, hb1⟩
  have S1 := Lib.hid (QV.from hb1 S0.out)
  clear hb1 S0
  obtain ⟨c0, c1, c2, c3⟩ := S1.out.box.four
  go_wp2_with fail
  refine (HF.out _ S1.out.lnW).mono ?_
  rintro e w2 ⟨rfl, hb2⟩
  have S2 := Lib.hid (QV.from hb2 S1.out)
  clear hb2 S1 c0 c1 c2 c3
  obtain ⟨c0, c1, c2, c3⟩ := S2.out.box.four
  go_wp2_with fail
  refine (LineErr_at HC.out H HL.out _ S2.out.lnW).mono ?_
  rintro e w3 ⟨rfl, hb3⟩
  have S3 := Lib.hid (QV.from hb3 S2.out)
  clear hb3 S2 c0 c1 c2 c3
  obtain ⟨c0, c1, c2, c3⟩ := S3.out.box.four
  obtain ⟨v0, v1, v2⟩ := S3.out.veh.three
  go_wp2_with fail
  refine (VehicleErr_any v _).mono ?_
  rintro e w4 ⟨rfl, hb4⟩
  rw [HVE.out]
  have S4 := Lib.hid (QV.from hb4 S3.out)
  clear hb4 S3 c0 c1 c2 c3 v0 v1 v2
  obtain ⟨c0, c1, c2, c3⟩ := S4.out.box.four
  obtain ⟨v0, v1, v2⟩ := S4.out.veh.three
  go_wp2_with fail
  refine (lawPoses_any HR.out HV.out HM.out H HL.out _ S4.out.lnW).mono ?_
  rintro e w5 ⟨rfl, hb5⟩
  have S5 := Lib.hid (QV.from hb5 S4.out)
  clear hb5 S4 c0 c1 c2 c3 v0 v1 v2
  obtain ⟨c0, c1, c2, c3⟩ := S5.out.box.four
  obtain ⟨v0, v1, v2⟩ := S5.out.veh.three
  have hsz := S5.out.veh.lt
  go_upto_region 10 with fail
  go_region_held3 (fun W => QV w W L H v ∧ W.cell? ⟨w.heap.size, 0, none⟩ = some (.string L.name) ∧ W.cell? ⟨w.heap.size, 1, none⟩ = some (.slice H.j.A L.js.length H.j.c) ∧ W.cell? ⟨w.heap.size, 2, none⟩ = some (.slice H.b.A L.bs.length H.b.c) ∧ W.cell? ⟨w.heap.size, 3, none⟩ = some (.slice H.s.A L.ss.length H.s.c) ∧ W.cell? ⟨w.heap.size + 1, 0, none⟩ = some (.int .i64 v.len) ∧ W.cell? ⟨w.heap.size + 1, 1, none⟩ = some (.int .i64 v.clear) ∧ W.cell? ⟨w.heap.size + 1, 2, none⟩ = some (.int .i64 v.step))
    ((go_split_ands; first | exact QV.all (by assumption) | exact QV.all (QV.from (by assumption) (by assumption)) | exact QV.all S5.out.drew | fail "keep"))
    ((first | (go_at_call 18; go_split_ands; refine (Copy_at L H HL.out HH.out _ (QV.lnW (w := w) (v := v) (by assumption))).mono ?_; rintro e wA ⟨GA, rfl, hGA, hbA⟩; have AA := Lib.hid hGA; clear hGA) | (go_at_call 61; go_split_ands; refine (HCA.out GA _ (by first | exact AA.out | exact AA.out.allocW _)).mono ?_; rintro e wB ⟨rfl, hbB⟩) | fail "arm"))
  all_goals
    go_split_ands
    have S20 : Hid (QV w wB L H v) := Lib.hid (by assumption)
    clear S5 hbA hbB AA hsz c0 c1 c2 c3 v0 v1 v2
    have hsz := S20.out.veh.lt
    obtain ⟨c0, c1, c2, c3⟩ := S20.out.box.four
    obtain ⟨v0, v1, v2⟩ := S20.out.veh.three
    go_upto_region 11 with fail
    go_cut [10, 11] from 41 (fun s10 s11 wx => ∃ g : Nat, s10 = .pointer (some ⟨g, 0, none⟩) ∧ s11 = .int .i64 12 ∧ XD w wx L H v g 0 0 0 0)
    case first =>
      go_region_held3 (fun W => QV w W L H v ∧ W.cell? ⟨w.heap.size, 0, none⟩ = some (.string L.name) ∧ W.cell? ⟨w.heap.size, 1, none⟩ = some (.slice H.j.A L.js.length H.j.c) ∧ W.cell? ⟨w.heap.size, 2, none⟩ = some (.slice H.b.A L.bs.length H.b.c) ∧ W.cell? ⟨w.heap.size, 3, none⟩ = some (.slice H.s.A L.ss.length H.s.c) ∧ W.cell? ⟨w.heap.size + 1, 0, none⟩ = some (.int .i64 v.len) ∧ W.cell? ⟨w.heap.size + 1, 1, none⟩ = some (.int .i64 v.clear) ∧ W.cell? ⟨w.heap.size + 1, 2, none⟩ = some (.int .i64 v.step))
        ((go_split_ands; refine QV.all ?_; (first | assumption | exact S20.out.drew | (repeat (first | assumption | exact S20.out | refine QV.alloc ?_ _ | refine QV.drew ?_ | (refine QV.set ?_ (by first | omega | (simp; omega)) _)))); done))
        ((first | (go_at_call 18; go_split_ands; refine (Copy_at L H HL.out HH.out _ (QV.lnW (w := w) (v := v) (by assumption))).mono ?_; rintro e wC ⟨GC, rfl, hGC, hbC⟩; have SC : QV w wC L H v := QV.from hbC (by assumption); have zC := SC.veh.lt; have AC := Lib.hid hGC; clear hGC; (first | (have N0 : Bk wC wB.heap.size 91 #[.int .i64 0, .int .i64 0, .int .i64 0, .int .i64 0] := Bk.call ((Bk.new wB 91 #[.int .i64 0, .int .i64 0, .int .i64 0, .int .i64 0]).drew) hbC; obtain ⟨n0, n1, n2, n3⟩ := N0.four; obtain ⟨nf0, nf1, nf2, nf3⟩ : _ ∧ _ ∧ _ ∧ _ := ⟨N0.frozen 0, N0.frozen 1, N0.frozen 2, N0.frozen 3⟩) | skip)) | (go_at_call 62; go_split_ands; refine (HFU.out GC _ (by first | exact AC.out | exact AC.out.allocW _)).mono ?_; rintro e wD ⟨rfl, hbD⟩; have SD : QV w wD L H v := QV.from hbD (by assumption); have zD := SD.veh.lt; (first | (have M0 : Bk wD wB.heap.size 91 #[.int .i64 0, .int .i64 0, .int .i64 0, .int .i64 0] := Bk.call N0 hbD; obtain ⟨m0, m1, m2, m3⟩ := M0.four; obtain ⟨mf0, mf1, mf2, mf3⟩ : _ ∧ _ ∧ _ ∧ _ := ⟨M0.frozen 0, M0.frozen 1, M0.frozen 2, M0.frozen 3⟩) | skip); (first | (have K0 : Bk wD wC.heap.size 91 #[.int .i64 0, .int .i64 0, .int .i64 0, .int .i64 0] := Bk.call (Bk.new wC 91 #[.int .i64 0, .int .i64 0, .int .i64 0, .int .i64 0]) hbD; obtain ⟨k0, k1, k2, k3⟩ := K0.four; obtain ⟨kf0, kf1, kf2, kf3⟩ : _ ∧ _ ∧ _ ∧ _ := ⟨K0.frozen 0, K0.frozen 1, K0.frozen 2, K0.frozen 3⟩) | skip)) | fail "arm"))
      all_goals
        go_split_ands
        go_wp2_with fail
        go_meet
        refine ⟨_, rfl, rfl, by assumption, ?_, ?_, ?_, ?_⟩
      all_goals (first | (go_simp; done) | (simp [*]; done) | skip)
    case rest =>
      obtain ⟨g, rfl, rfl, hV⟩ := hcut
      have D0 := Lib.hid hV
      clear hV S20 c0 c1 c2 c3 v0 v1 v2 hsz
      obtain ⟨c0, c1, c2, c3⟩ := D0.out.s.box.four
      obtain ⟨v0, v1, v2⟩ := D0.out.s.veh.three
      have k0 := D0.out.k0
      have k1 := D0.out.k1
      have k2 := D0.out.k2
      have k3 := D0.out.k3
      go_wp2_with fail
      refine (refFirstUnclear_any HR.out HV.out H HL.out _ D0.out.s.lnW).mono ?_
      rintro e w31 ⟨rfl, hb31⟩
      rw [HRU.out]
      have D31 := Lib.hid (XD.from hb31 D0.out)
      clear hb31 D0 c0 c1 c2 c3 v0 v1 v2 k0 k1 k2 k3
      have E0 := Lib.hid (D31.out.alloc (.cells #[.int .i64 0, .int .i64 0, .int .i64 0, .int .i64 0] 91))
      have Y0 := Lib.hid (Bk.new w31 91 #[.int .i64 0, .int .i64 0, .int .i64 0, .int .i64 0])
      clear D31
      obtain ⟨c0, c1, c2, c3⟩ := E0.out.s.box.four
      obtain ⟨v0, v1, v2⟩ := E0.out.s.veh.three
      have k0 := E0.out.k0
      have k1 := E0.out.k1
      have k2 := E0.out.k2
      have k3 := E0.out.k3
      obtain ⟨y0, y1, y2, y3⟩ := Y0.out.four
      go_wp2_with fail
      refine (PoseErr_at HR.out HV.out HPE.out H HL.out _ E0.out.s.lnW).mono ?_
      rintro e w32 ⟨rfl, hb32⟩
      have D32 := Lib.hid (XD.from hb32 E0.out)
      clear hb32 E0 c0 c1 c2 c3 v0 v1 v2 k0 k1 k2 k3 y0 y1 y2 y3
      go_wp2_with fail
      go_ret
      exact ⟨rfl, D32.out.s.bl⟩

/-! All cases together. -/

set_option maxHeartbeats 8000000 in
set_option maxRecDepth 100000 in
theorem LinePoses_any (L : Ll) (H : Hds) (hH : HdsOk H) (n1 : L.name.size ≤ maxLen) (n2 : L.js.length ≤ maxLen) (n3 : L.bs.length ≤ maxLen) (n4 : L.ss.length ≤ maxLen) (n5 : ∀ s ∈ L.ss, s.across.length ≤ maxLen ∧ s.name.size ≤ maxLen)
    (oj : ∀ j ∈ L.js, j.ok) (ob : ∀ b ∈ L.bs, b.ok) (os : ∀ s ∈ L.ss, s.ok) (v : Lv) (p : Int) (w : World) (hA : LnAt w w.heap.size L H) :
    Calls Try.prog 10 #[(.agg #[.string L.name, .slice H.j.A L.js.length H.j.c, .slice H.b.A L.bs.length H.b.c, .slice H.s.A L.ss.length H.s.c]), (.agg #[.int .i64 v.len, .int .i64 v.clear, .int .i64 v.step]), .int .i64 p] w fun e w' => e = .returned (.bool true) ∧ Below w.heap.size w w' := by
  cases hf : fewL L with
  | false =>
    have S0 := Lib.hid (QV.start (v := v) hA)
    have HF := Lib.hid (fun w hA => Few_any L H n1 n2 n3 n4 n5 w hA)
    rw [hf] at HF
    clear hA n1 n2 n3 n4 n5 oj ob os hH hf
    go_enter Try.func10, Try.ntmps10
    go_wp2_with fail
    refine (awake_any _).mono ?_
    rintro e w1 ⟨rfl, hb1⟩
    have S1 := Lib.hid (QV.from hb1 S0.out)
    clear hb1 S0
    obtain ⟨c0, c1, c2, c3⟩ := S1.out.box.four
    go_wp2_with fail
    refine (HF.out _ S1.out.lnW).mono ?_
    rintro e w2 ⟨rfl, hb2⟩
    have S2 := Lib.hid (QV.from hb2 S1.out)
    clear hb2 S1 c0 c1 c2 c3
    go_wp2_with fail
    go_ret
    exact ⟨rfl, S2.out.bl⟩
  | true =>
    have hL : L.ok := few_ok hf oj ob os
    have hF : ∀ w : World, LnAt w w.heap.size L H → Calls Try.prog 16 #[(.agg #[.string L.name, .slice H.j.A L.js.length H.j.c, .slice H.b.A L.bs.length H.b.c, .slice H.s.A L.ss.length H.s.c])] w fun e w' => e = .returned (.bool true) ∧ Below w.heap.size w w' := fun w hA => by
      have h := Few_any L H n1 n2 n3 n4 n5 w hA
      rw [hf] at h
      exact h
    by_cases he : (ckLine L).2 = 0
    · have hr := right_of he
      have hck := ck_right he
      by_cases hv : vErr v = 0
      · cases hm : decide (placeL L.bs L.bs.length / v.step ≤ 100) with
        | false => exact LinePoses_many hL hH hF hr hck hv hm w hA
        | true =>
          cases hp : (inB p 0 (placeL L.bs L.bs.length - v.len) && (p.tmod v.step == 0)) with
          | false =>
            cases hu : unL L v with
            | none => exact LinePoses_none_no hL hH hF hr hck hv hm hu hp w hA
            | some x => obtain ⟨q, j, lo, hi⟩ := x; exact LinePoses_some_no hL hH hF hr hck hv hm hu hp w hA
          | true =>
            simp only [Bool.and_eq_true, beq_iff_eq] at hp
            obtain ⟨hp, ht⟩ := hp
            cases hu : unL L v with
            | none => exact LinePoses_none_at hL hH hF hr hck hv hm hu hp ht w hA
            | some x => obtain ⟨q, j, lo, hi⟩ := x; exact LinePoses_some_at hL hH hF hr hck hv hm hu hp ht w hA
      · exact LinePoses_veh hL hH hF hck rfl hv w hA
    · exact LinePoses_line hL hH hF (m1 := (ckLine L).1.1) (m2 := (ckLine L).1.2) rfl he w hA
end Go.Proofs.Ytmnlgeglmkdecaa
