/-
  The walk of LinePoses: the cases without an answer, and too many poses.
-/
import Derived.Test.YtmnlgeglmkdecaaUncl
import Derived.Deep.DeepCutAuto
import Derived.Deep.CutRange
namespace Go.Proofs.Ytmnlgeglmkdecaa
open Go.RowKit

theorem QV.all {w W : World} {L : Ll} {H : Hds} {v : Lv} (h : QV w W L H v) : QV w W L H v ∧ W.cell? ⟨w.heap.size, 0, none⟩ = some (.string L.name) ∧ W.cell? ⟨w.heap.size, 1, none⟩ = some (.slice H.j.A L.js.length H.j.c) ∧ W.cell? ⟨w.heap.size, 2, none⟩ = some (.slice H.b.A L.bs.length H.b.c) ∧ W.cell? ⟨w.heap.size, 3, none⟩ = some (.slice H.s.A L.ss.length H.s.c) ∧ W.cell? ⟨w.heap.size + 1, 0, none⟩ = some (.int .i64 v.len) ∧ W.cell? ⟨w.heap.size + 1, 1, none⟩ = some (.int .i64 v.clear) ∧ W.cell? ⟨w.heap.size + 1, 2, none⟩ = some (.int .i64 v.step) := ⟨h, h.box.cell 0, h.box.cell 1, h.box.cell 2, h.box.cell 3, h.veh.cell 0, h.veh.cell 1, h.veh.cell 2⟩
/-- And four numbers in a box of their own. -/
structure XD (w W : World) (L : Ll) (H : Hds) (v : Lv) (g : Nat) (a b c d : Int) : Prop where
  s : QV w W L H v
  k0 : W.cell? ⟨g, 0, none⟩ = some (.int .i64 a)
  k1 : W.cell? ⟨g, 1, none⟩ = some (.int .i64 b)
  k2 : W.cell? ⟨g, 2, none⟩ = some (.int .i64 c)
  k3 : W.cell? ⟨g, 3, none⟩ = some (.int .i64 d)
theorem XD.from {w W W' : World} {L : Ll} {H : Hds} {v : Lv} {g : Nat} {a b c d : Int} (hb : Below W.heap.size W W') (h : XD w W L H v g a b c d) : XD w W' L H v g a b c d :=
  ⟨h.s.from hb, (hb.cell (cell_lt h.k0)).trans h.k0, (hb.cell (cell_lt h.k1)).trans h.k1, (hb.cell (cell_lt h.k2)).trans h.k2, (hb.cell (cell_lt h.k3)).trans h.k3⟩
theorem XD.alloc {w W : World} {L : Ll} {H : Hds} {v : Lv} {g : Nat} {a b c d : Int} (h : XD w W L H v g a b c d) (o : Obj) : XD w (W.alloc o) L H v g a b c d := h.from ((Below.refl _ W).alloc (Nat.le_refl _) o)

set_option maxHeartbeats 4000000 in
set_option maxRecDepth 100000 in
theorem lawPoses_any {L : Ll} (hr : Right L) {v : Lv} (hv : vErr v = 0) {b : Bool} (hb : decide (placeL L.bs L.bs.length / v.step ≤ 100) = b) (H : Hds) (hL : L.ok) (w : World) (hA : LnAt w w.heap.size L H) :
    Calls Try.prog 60 #[(.agg #[.string L.name, .slice H.j.A L.js.length H.j.c, .slice H.b.A L.bs.length H.b.c, .slice H.s.A L.ss.length H.s.c]), (.agg #[.int .i64 v.len, .int .i64 v.clear, .int .i64 v.step])] w fun e w' => e = .returned (.bool b) ∧ Below w.heap.size w w' := by
  have Q0 := Lib.hid (QV.start (v := v) hA)
  have HR := Lib.hid hr
  have h40 := hr.most
  obtain ⟨s1, s2⟩ := placeL_bound L.bs hr.b L.bs.length (Nat.le_refl _)
  obtain ⟨_, _, t1, t2⟩ := vErr_in hv
  obtain ⟨T, hT⟩ : ∃ T, placeL L.bs L.bs.length = T := ⟨_, rfl⟩
  rw [hT] at hb s1 s2
  have HT := Lib.hid hT
  have gz : (v.step == 0) = false := by simp; omega
  have hm1 : T.tdiv v.step = T / v.step := Int.tdiv_eq_ediv_of_nonneg (by omega)
  have hd0 : 0 ≤ T / v.step := Int.ediv_nonneg (by omega) (by omega)
  have hd1 : T / v.step ≤ T := Int.ediv_le_self _ (by omega)
  have ur : IntKind.i64.wrap (T.tdiv v.step) = T.tdiv v.step := IntWalk.i64_in _ (by omega)
  have ur2 : IntKind.i64.wrap (T / v.step) = T / v.step := IntWalk.i64_in _ (by omega)
  have HB := Lib.hid hb
  have HM := Lib.hid hm1
  clear hr hv hA hT hb
  by_cases hc : T / v.step ≤ 100
  all_goals
    have hc2 := hc
    rw [← HM.out] at hc2
    have HC := Lib.hid hc
    clear hm1
    go_enter Try.func60, Try.ntmps60
    go_wp2_with fail
    (first | go_region_with (first | (go_at_call 22; refine (refLengthOf_any HR.out H hL _ (QV.lnW (w := w) (v := v) (by first | exact Q0.out.drew | exact Q0.out))).mono ?_; rintro e w2 ⟨rfl, hb2⟩; rw [HT.out]; have Q2 : Hid (QV w w2 L H v) := Lib.hid (QV.from hb2 (by first | exact Q0.out.drew | exact Q0.out)); obtain ⟨q0, q1, q2⟩ := Q2.out.veh.three) | fail "arm") | fail "region")
    all_goals
      go_wp2_with fail
      go_ret
      exact ⟨ret_bool (by rw [← HB.out]; first | (simp [HC.out]; done) | (simp [HC.out, hc2]; done) | (simp; omega)), by first | exact Q2.out.bl | exact Q2.out.bl.drew | exact below_drewN Q2.out.bl _⟩

set_option maxHeartbeats 16000000 in
set_option maxRecDepth 100000 in
theorem LinePoses_line {L : Ll} (hL : L.ok) {H : Hds} (hH : HdsOk H) (hF : ∀ w : World, LnAt w w.heap.size L H → Calls Try.prog 16 #[(.agg #[.string L.name, .slice H.j.A L.js.length H.j.c, .slice H.b.A L.bs.length H.b.c, .slice H.s.A L.ss.length H.s.c])] w fun e w' => e = .returned (.bool true) ∧ Below w.heap.size w w') {v : Lv} {p : Int} {m1 m2 er : Int} (hck : ckLine L = ((m1, m2), er)) (he : er ≠ 0) (w : World) (hA : LnAt w w.heap.size L H) :
    Calls Try.prog 10 #[(.agg #[.string L.name, .slice H.j.A L.js.length H.j.c, .slice H.b.A L.bs.length H.b.c, .slice H.s.A L.ss.length H.s.c]), (.agg #[.int .i64 v.len, .int .i64 v.clear, .int .i64 v.step]), .int .i64 p] w fun e w' => e = .returned (.bool true) ∧ Below w.heap.size w w' := by
  have S0 := Lib.hid (QV.start (v := v) hA)
  have HF := Lib.hid hF
  have HH := Lib.hid hH
  have HL := Lib.hid hL
  clear hA hF hH hL
  have HC := Lib.hid hck
  have HRE : Hid (rideErr L v = er) := Lib.hid (by unfold rideErr; rw [hck]; exact if_pos he)
  have HPR : Hid (poseErr L v p = er) := Lib.hid (by unfold poseErr; rw [HRE.out, if_pos he])
  have HNE := Lib.hid he
  have ge : (er != 0) = true := by simp [he]
  have gf : (er == 0) = false := by simp [he]
  have HCA : Hid (∀ (G : Hds) (u : World), LnAt u u.heap.size L G → Calls Try.prog 61 #[.agg #[.string L.name, .slice G.j.A L.js.length G.j.c, .slice G.b.A L.bs.length G.b.c, .slice G.s.A L.ss.length G.s.c], (.agg #[.int .i64 v.len, .int .i64 v.clear, .int .i64 v.step]), .int .i64 p] u fun e u' => e = .returned (.tuple #[.int .i64 0, .int .i64 er]) ∧ Below u.heap.size u u') := Lib.hid (fun G u hG => ClearAt_err HPR.out HNE.out G HL.out u hG)
  have HFU : Hid (∀ (G : Hds) (u : World), LnAt u u.heap.size L G → Calls Try.prog 62 #[.agg #[.string L.name, .slice G.j.A L.js.length G.j.c, .slice G.b.A L.bs.length G.b.c, .slice G.s.A L.ss.length G.s.c], (.agg #[.int .i64 v.len, .int .i64 v.clear, .int .i64 v.step])] u fun e u' => e = .returned (.tuple #[.agg #[.int .i64 0, .int .i64 0, .int .i64 0, .int .i64 0], .int .i64 er]) ∧ Below u.heap.size u u') := Lib.hid (fun G u hG => FirstUnclear_err HRE.out HNE.out G HL.out u hG)
  clear hck he
  go_enter Try.func10, Try.ntmps10
  go_wp2_with fail
  refine (awake_any _).mono ?_
  rintro e w1 ⟨rfl, hb1⟩
  have S1 := Lib.hid (QV.from hb1 S0.out)
  clear hb1 S0
  obtain ⟨c0, c1, c2, c3⟩ := S1.out.box.four
  go_wp2_with fail
  refine (HF.out _ S1.out.lnW).mono ?_
  rintro e w2 ⟨rfl, hb2⟩
  have S2 := Lib.hid (QV.from hb2 S1.out)
  clear hb2 S1 c0 c1 c2 c3
  obtain ⟨c0, c1, c2, c3⟩ := S2.out.box.four
  go_wp2_with fail
  refine (LineErr_at HC.out H HL.out _ S2.out.lnW).mono ?_
  rintro e w3 ⟨rfl, hb3⟩
  have S3 := Lib.hid (QV.from hb3 S2.out)
  clear hb3 S2 c0 c1 c2 c3
  obtain ⟨c0, c1, c2, c3⟩ := S3.out.box.four
  obtain ⟨v0, v1, v2⟩ := S3.out.veh.three
  have hsz := S3.out.veh.lt
  go_upto_region 10 with fail
  go_region_held3 (fun W => QV w W L H v ∧ W.cell? ⟨w.heap.size, 0, none⟩ = some (.string L.name) ∧ W.cell? ⟨w.heap.size, 1, none⟩ = some (.slice H.j.A L.js.length H.j.c) ∧ W.cell? ⟨w.heap.size, 2, none⟩ = some (.slice H.b.A L.bs.length H.b.c) ∧ W.cell? ⟨w.heap.size, 3, none⟩ = some (.slice H.s.A L.ss.length H.s.c) ∧ W.cell? ⟨w.heap.size + 1, 0, none⟩ = some (.int .i64 v.len) ∧ W.cell? ⟨w.heap.size + 1, 1, none⟩ = some (.int .i64 v.clear) ∧ W.cell? ⟨w.heap.size + 1, 2, none⟩ = some (.int .i64 v.step))
    ((go_split_ands; first | exact QV.all (by assumption) | exact QV.all (QV.from (by assumption) (by assumption)) | exact QV.all S3.out.drew | fail "keep"))
    ((first | (go_at_call 18; go_split_ands; refine (Copy_at L H HL.out HH.out _ (QV.lnW (w := w) (v := v) (by assumption))).mono ?_; rintro e wA ⟨GA, rfl, hGA, hbA⟩; have AA := Lib.hid hGA; clear hGA) | (go_at_call 61; go_split_ands; refine (HCA.out GA _ (by first | exact AA.out | exact AA.out.allocW _)).mono ?_; rintro e wB ⟨rfl, hbB⟩) | fail "arm"))
  all_goals
    go_split_ands
    have S20 : Hid (QV w wB L H v) := Lib.hid (by assumption)
    clear S3 hbA hbB AA hsz c0 c1 c2 c3 v0 v1 v2
    have hsz := S20.out.veh.lt
    obtain ⟨c0, c1, c2, c3⟩ := S20.out.box.four
    obtain ⟨v0, v1, v2⟩ := S20.out.veh.three
    go_upto_region 11 with fail
    go_cut [10, 11] from 41 (fun s10 s11 wx => ∃ g : Nat, s10 = .pointer (some ⟨g, 0, none⟩) ∧ s11 = .int .i64 er ∧ XD w wx L H v g 0 0 0 0)
    case first =>
      go_region_held3 (fun W => QV w W L H v ∧ W.cell? ⟨w.heap.size, 0, none⟩ = some (.string L.name) ∧ W.cell? ⟨w.heap.size, 1, none⟩ = some (.slice H.j.A L.js.length H.j.c) ∧ W.cell? ⟨w.heap.size, 2, none⟩ = some (.slice H.b.A L.bs.length H.b.c) ∧ W.cell? ⟨w.heap.size, 3, none⟩ = some (.slice H.s.A L.ss.length H.s.c) ∧ W.cell? ⟨w.heap.size + 1, 0, none⟩ = some (.int .i64 v.len) ∧ W.cell? ⟨w.heap.size + 1, 1, none⟩ = some (.int .i64 v.clear) ∧ W.cell? ⟨w.heap.size + 1, 2, none⟩ = some (.int .i64 v.step))
        ((go_split_ands; refine QV.all ?_; (first | assumption | exact S20.out.drew | (repeat (first | assumption | exact S20.out | refine QV.alloc ?_ _ | refine QV.drew ?_ | (refine QV.set ?_ (by first | omega | (simp; omega)) _)))); done))
        ((first | (go_at_call 18; go_split_ands; refine (Copy_at L H HL.out HH.out _ (QV.lnW (w := w) (v := v) (by assumption))).mono ?_; rintro e wC ⟨GC, rfl, hGC, hbC⟩; have SC : QV w wC L H v := QV.from hbC (by assumption); have zC := SC.veh.lt; have AC := Lib.hid hGC; clear hGC; (first | (have N0 : Bk wC wB.heap.size 91 #[.int .i64 0, .int .i64 0, .int .i64 0, .int .i64 0] := Bk.call ((Bk.new wB 91 #[.int .i64 0, .int .i64 0, .int .i64 0, .int .i64 0]).drew) hbC; obtain ⟨n0, n1, n2, n3⟩ := N0.four; obtain ⟨nf0, nf1, nf2, nf3⟩ : _ ∧ _ ∧ _ ∧ _ := ⟨N0.frozen 0, N0.frozen 1, N0.frozen 2, N0.frozen 3⟩) | skip)) | (go_at_call 62; go_split_ands; refine (HFU.out GC _ (by first | exact AC.out | exact AC.out.allocW _)).mono ?_; rintro e wD ⟨rfl, hbD⟩; have SD : QV w wD L H v := QV.from hbD (by assumption); have zD := SD.veh.lt; (first | (have M0 : Bk wD wB.heap.size 91 #[.int .i64 0, .int .i64 0, .int .i64 0, .int .i64 0] := Bk.call N0 hbD; obtain ⟨m0, m1, m2, m3⟩ := M0.four; obtain ⟨mf0, mf1, mf2, mf3⟩ : _ ∧ _ ∧ _ ∧ _ := ⟨M0.frozen 0, M0.frozen 1, M0.frozen 2, M0.frozen 3⟩) | skip); (first | (have K0 : Bk wD wC.heap.size 91 #[.int .i64 0, .int .i64 0, .int .i64 0, .int .i64 0] := Bk.call (Bk.new wC 91 #[.int .i64 0, .int .i64 0, .int .i64 0, .int .i64 0]) hbD; obtain ⟨k0, k1, k2, k3⟩ := K0.four; obtain ⟨kf0, kf1, kf2, kf3⟩ : _ ∧ _ ∧ _ ∧ _ := ⟨K0.frozen 0, K0.frozen 1, K0.frozen 2, K0.frozen 3⟩) | skip)) | fail "arm"))
      all_goals
        go_split_ands
        go_wp2_with fail
        go_meet
        refine ⟨_, rfl, rfl, by assumption, ?_, ?_, ?_, ?_⟩
      all_goals (first | (go_simp; done) | (simp [*]; done) | skip)
    case rest =>
      obtain ⟨g, rfl, rfl, hV⟩ := hcut
      have D0 := Lib.hid hV
      clear hV S20 c0 c1 c2 c3 v0 v1 v2 hsz
      obtain ⟨c0, c1, c2, c3⟩ := D0.out.s.box.four
      obtain ⟨v0, v1, v2⟩ := D0.out.s.veh.three
      have k0 := D0.out.k0
      have k1 := D0.out.k1
      have k2 := D0.out.k2
      have k3 := D0.out.k3
      go_wp2_with fail
      go_ret
      exact ⟨rfl, D0.out.s.bl⟩

set_option maxHeartbeats 16000000 in
set_option maxRecDepth 100000 in
theorem LinePoses_veh {L : Ll} (hL : L.ok) {H : Hds} (hH : HdsOk H) (hF : ∀ w : World, LnAt w w.heap.size L H → Calls Try.prog 16 #[(.agg #[.string L.name, .slice H.j.A L.js.length H.j.c, .slice H.b.A L.bs.length H.b.c, .slice H.s.A L.ss.length H.s.c])] w fun e w' => e = .returned (.bool true) ∧ Below w.heap.size w w') {v : Lv} {p : Int} (hck : ckLine L = ((0, 0), 0)) {er : Int} (hv : vErr v = er) (he : er ≠ 0) (w : World) (hA : LnAt w w.heap.size L H) :
    Calls Try.prog 10 #[(.agg #[.string L.name, .slice H.j.A L.js.length H.j.c, .slice H.b.A L.bs.length H.b.c, .slice H.s.A L.ss.length H.s.c]), (.agg #[.int .i64 v.len, .int .i64 v.clear, .int .i64 v.step]), .int .i64 p] w fun e w' => e = .returned (.bool true) ∧ Below w.heap.size w w' := by
  have S0 := Lib.hid (QV.start (v := v) hA)
  have HF := Lib.hid hF
  have HH := Lib.hid hH
  have HL := Lib.hid hL
  clear hA hF hH hL
  have HC := Lib.hid hck
  have HRE : Hid (rideErr L v = er) := Lib.hid (by unfold rideErr; rw [hck]; rw [if_neg (by simp)]; exact hv)
  have HPR : Hid (poseErr L v p = er) := Lib.hid (by unfold poseErr; rw [HRE.out, if_pos he])
  have HNE := Lib.hid he
  have ge : (er != 0) = true := by simp [he]
  have gf : (er == 0) = false := by simp [he]
  have HVE := Lib.hid hv
  have HCA : Hid (∀ (G : Hds) (u : World), LnAt u u.heap.size L G → Calls Try.prog 61 #[.agg #[.string L.name, .slice G.j.A L.js.length G.j.c, .slice G.b.A L.bs.length G.b.c, .slice G.s.A L.ss.length G.s.c], (.agg #[.int .i64 v.len, .int .i64 v.clear, .int .i64 v.step]), .int .i64 p] u fun e u' => e = .returned (.tuple #[.int .i64 0, .int .i64 er]) ∧ Below u.heap.size u u') := Lib.hid (fun G u hG => ClearAt_err HPR.out HNE.out G HL.out u hG)
  have HFU : Hid (∀ (G : Hds) (u : World), LnAt u u.heap.size L G → Calls Try.prog 62 #[.agg #[.string L.name, .slice G.j.A L.js.length G.j.c, .slice G.b.A L.bs.length G.b.c, .slice G.s.A L.ss.length G.s.c], (.agg #[.int .i64 v.len, .int .i64 v.clear, .int .i64 v.step])] u fun e u' => e = .returned (.tuple #[.agg #[.int .i64 0, .int .i64 0, .int .i64 0, .int .i64 0], .int .i64 er]) ∧ Below u.heap.size u u') := Lib.hid (fun G u hG => FirstUnclear_err HRE.out HNE.out G HL.out u hG)
  clear hck he hv
  go_enter Try.func10, Try.ntmps10
  go_wp2_with fail
  refine (awake_any _).mono ?_
  rintro e w1 ⟨rfl, hb1⟩
  have S1 := Lib.hid (QV.from hb1 S0.out)
  clear hb1 S0
  obtain ⟨c0, c1, c2, c3⟩ := S1.out.box.four
  go_wp2_with fail
  refine (HF.out _ S1.out.lnW).mono ?_
  rintro e w2 ⟨rfl, hb2⟩
  have S2 := Lib.hid (QV.from hb2 S1.out)
  clear hb2 S1 c0 c1 c2 c3
  obtain ⟨c0, c1, c2, c3⟩ := S2.out.box.four
  go_wp2_with fail
  refine (LineErr_at HC.out H HL.out _ S2.out.lnW).mono ?_
  rintro e w3 ⟨rfl, hb3⟩
  have S3 := Lib.hid (QV.from hb3 S2.out)
  clear hb3 S2 c0 c1 c2 c3
  obtain ⟨c0, c1, c2, c3⟩ := S3.out.box.four
  obtain ⟨v0, v1, v2⟩ := S3.out.veh.three
  go_wp2_with fail
  refine (VehicleErr_any v _).mono ?_
  rintro e w4 ⟨rfl, hb4⟩
  rw [HVE.out]
  have S4 := Lib.hid (QV.from hb4 S3.out)
  clear hb4 S3 c0 c1 c2 c3 v0 v1 v2
  obtain ⟨c0, c1, c2, c3⟩ := S4.out.box.four
  obtain ⟨v0, v1, v2⟩ := S4.out.veh.three
  have hsz := S4.out.veh.lt
  go_upto_region 10 with fail
  go_region_held3 (fun W => QV w W L H v ∧ W.cell? ⟨w.heap.size, 0, none⟩ = some (.string L.name) ∧ W.cell? ⟨w.heap.size, 1, none⟩ = some (.slice H.j.A L.js.length H.j.c) ∧ W.cell? ⟨w.heap.size, 2, none⟩ = some (.slice H.b.A L.bs.length H.b.c) ∧ W.cell? ⟨w.heap.size, 3, none⟩ = some (.slice H.s.A L.ss.length H.s.c) ∧ W.cell? ⟨w.heap.size + 1, 0, none⟩ = some (.int .i64 v.len) ∧ W.cell? ⟨w.heap.size + 1, 1, none⟩ = some (.int .i64 v.clear) ∧ W.cell? ⟨w.heap.size + 1, 2, none⟩ = some (.int .i64 v.step))
    ((go_split_ands; first | exact QV.all (by assumption) | exact QV.all (QV.from (by assumption) (by assumption)) | exact QV.all S4.out.drew | fail "keep"))
    ((first | (go_at_call 18; go_split_ands; refine (Copy_at L H HL.out HH.out _ (QV.lnW (w := w) (v := v) (by assumption))).mono ?_; rintro e wA ⟨GA, rfl, hGA, hbA⟩; have AA := Lib.hid hGA; clear hGA) | (go_at_call 61; go_split_ands; refine (HCA.out GA _ (by first | exact AA.out | exact AA.out.allocW _)).mono ?_; rintro e wB ⟨rfl, hbB⟩) | fail "arm"))
  all_goals
    go_split_ands
    have S20 : Hid (QV w wB L H v) := Lib.hid (by assumption)
    clear S4 hbA hbB AA hsz c0 c1 c2 c3 v0 v1 v2
    have hsz := S20.out.veh.lt
    obtain ⟨c0, c1, c2, c3⟩ := S20.out.box.four
    obtain ⟨v0, v1, v2⟩ := S20.out.veh.three
    go_upto_region 11 with fail
    go_cut [10, 11] from 41 (fun s10 s11 wx => ∃ g : Nat, s10 = .pointer (some ⟨g, 0, none⟩) ∧ s11 = .int .i64 er ∧ XD w wx L H v g 0 0 0 0)
    case first =>
      go_region_held3 (fun W => QV w W L H v ∧ W.cell? ⟨w.heap.size, 0, none⟩ = some (.string L.name) ∧ W.cell? ⟨w.heap.size, 1, none⟩ = some (.slice H.j.A L.js.length H.j.c) ∧ W.cell? ⟨w.heap.size, 2, none⟩ = some (.slice H.b.A L.bs.length H.b.c) ∧ W.cell? ⟨w.heap.size, 3, none⟩ = some (.slice H.s.A L.ss.length H.s.c) ∧ W.cell? ⟨w.heap.size + 1, 0, none⟩ = some (.int .i64 v.len) ∧ W.cell? ⟨w.heap.size + 1, 1, none⟩ = some (.int .i64 v.clear) ∧ W.cell? ⟨w.heap.size + 1, 2, none⟩ = some (.int .i64 v.step))
        ((go_split_ands; refine QV.all ?_; (first | assumption | exact S20.out.drew | (repeat (first | assumption | exact S20.out | refine QV.alloc ?_ _ | refine QV.drew ?_ | (refine QV.set ?_ (by first | omega | (simp; omega)) _)))); done))
        ((first | (go_at_call 18; go_split_ands; refine (Copy_at L H HL.out HH.out _ (QV.lnW (w := w) (v := v) (by assumption))).mono ?_; rintro e wC ⟨GC, rfl, hGC, hbC⟩; have SC : QV w wC L H v := QV.from hbC (by assumption); have zC := SC.veh.lt; have AC := Lib.hid hGC; clear hGC; (first | (have N0 : Bk wC wB.heap.size 91 #[.int .i64 0, .int .i64 0, .int .i64 0, .int .i64 0] := Bk.call ((Bk.new wB 91 #[.int .i64 0, .int .i64 0, .int .i64 0, .int .i64 0]).drew) hbC; obtain ⟨n0, n1, n2, n3⟩ := N0.four; obtain ⟨nf0, nf1, nf2, nf3⟩ : _ ∧ _ ∧ _ ∧ _ := ⟨N0.frozen 0, N0.frozen 1, N0.frozen 2, N0.frozen 3⟩) | skip)) | (go_at_call 62; go_split_ands; refine (HFU.out GC _ (by first | exact AC.out | exact AC.out.allocW _)).mono ?_; rintro e wD ⟨rfl, hbD⟩; have SD : QV w wD L H v := QV.from hbD (by assumption); have zD := SD.veh.lt; (first | (have M0 : Bk wD wB.heap.size 91 #[.int .i64 0, .int .i64 0, .int .i64 0, .int .i64 0] := Bk.call N0 hbD; obtain ⟨m0, m1, m2, m3⟩ := M0.four; obtain ⟨mf0, mf1, mf2, mf3⟩ : _ ∧ _ ∧ _ ∧ _ := ⟨M0.frozen 0, M0.frozen 1, M0.frozen 2, M0.frozen 3⟩) | skip); (first | (have K0 : Bk wD wC.heap.size 91 #[.int .i64 0, .int .i64 0, .int .i64 0, .int .i64 0] := Bk.call (Bk.new wC 91 #[.int .i64 0, .int .i64 0, .int .i64 0, .int .i64 0]) hbD; obtain ⟨k0, k1, k2, k3⟩ := K0.four; obtain ⟨kf0, kf1, kf2, kf3⟩ : _ ∧ _ ∧ _ ∧ _ := ⟨K0.frozen 0, K0.frozen 1, K0.frozen 2, K0.frozen 3⟩) | skip)) | fail "arm"))
      all_goals
        go_split_ands
        go_wp2_with fail
        go_meet
        refine ⟨_, rfl, rfl, by assumption, ?_, ?_, ?_, ?_⟩
      all_goals (first | (go_simp; done) | (simp [*]; done) | skip)
    case rest =>
      obtain ⟨g, rfl, rfl, hV⟩ := hcut
      have D0 := Lib.hid hV
      clear hV S20 c0 c1 c2 c3 v0 v1 v2 hsz
      obtain ⟨c0, c1, c2, c3⟩ := D0.out.s.box.four
      obtain ⟨v0, v1, v2⟩ := D0.out.s.veh.three
      have k0 := D0.out.k0
      have k1 := D0.out.k1
      have k2 := D0.out.k2
      have k3 := D0.out.k3
      go_wp2_with fail
      go_ret
      exact ⟨rfl, D0.out.s.bl⟩

set_option maxHeartbeats 16000000 in
set_option maxRecDepth 100000 in
theorem LinePoses_many {L : Ll} (hL : L.ok) {H : Hds} (hH : HdsOk H) (hF : ∀ w : World, LnAt w w.heap.size L H → Calls Try.prog 16 #[(.agg #[.string L.name, .slice H.j.A L.js.length H.j.c, .slice H.b.A L.bs.length H.b.c, .slice H.s.A L.ss.length H.s.c])] w fun e w' => e = .returned (.bool true) ∧ Below w.heap.size w w') {v : Lv} {p : Int} (hr : Right L) (hck : ckLine L = ((0, 0), 0)) (hv : vErr v = 0) (hm : decide (placeL L.bs L.bs.length / v.step ≤ 100) = false) (w : World) (hA : LnAt w w.heap.size L H) :
    Calls Try.prog 10 #[(.agg #[.string L.name, .slice H.j.A L.js.length H.j.c, .slice H.b.A L.bs.length H.b.c, .slice H.s.A L.ss.length H.s.c]), (.agg #[.int .i64 v.len, .int .i64 v.clear, .int .i64 v.step]), .int .i64 p] w fun e w' => e = .returned (.bool true) ∧ Below w.heap.size w w' := by
  have S0 := Lib.hid (QV.start (v := v) hA)
  have HF := Lib.hid hF
  have HH := Lib.hid hH
  have HL := Lib.hid hL
  clear hA hF hH hL
  have HC := Lib.hid hck
  have HR := Lib.hid hr
  have HV := Lib.hid hv
  have HVE := Lib.hid hv
  have HM := Lib.hid hm
  clear hr hck hv hm
  go_enter Try.func10, Try.ntmps10
  go_wp2_with fail
  refine (awake_any _).mono ?_
  rintro e w1 ⟨rfl, hb1⟩
  have S1 := Lib.hid (QV.from hb1 S0.out)
  clear hb1 S0
  obtain ⟨c0, c1, c2, c3⟩ := S1.out.box.four
  go_wp2_with fail
  refine (HF.out _ S1.out.lnW).mono ?_
  rintro e w2 ⟨rfl, hb2⟩
  have S2 := Lib.hid (QV.from hb2 S1.out)
  clear hb2 S1 c0 c1 c2 c3
  obtain ⟨c0, c1, c2, c3⟩ := S2.out.box.four
  go_wp2_with fail
  refine (LineErr_at HC.out H HL.out _ S2.out.lnW).mono ?_
  rintro e w3 ⟨rfl, hb3⟩
  have S3 := Lib.hid (QV.from hb3 S2.out)
  clear hb3 S2 c0 c1 c2 c3
  obtain ⟨c0, c1, c2, c3⟩ := S3.out.box.four
  obtain ⟨v0, v1, v2⟩ := S3.out.veh.three
  go_wp2_with fail
  refine (VehicleErr_any v _).mono ?_
  rintro e w4 ⟨rfl, hb4⟩
  rw [HVE.out]
  have S4 := Lib.hid (QV.from hb4 S3.out)
  clear hb4 S3 c0 c1 c2 c3 v0 v1 v2
  obtain ⟨c0, c1, c2, c3⟩ := S4.out.box.four
  obtain ⟨v0, v1, v2⟩ := S4.out.veh.three
  go_wp2_with fail
  refine (lawPoses_any HR.out HV.out HM.out H HL.out _ S4.out.lnW).mono ?_
  rintro e w5 ⟨rfl, hb5⟩
  have S5 := Lib.hid (QV.from hb5 S4.out)
  clear hb5 S4 c0 c1 c2 c3 v0 v1 v2
  go_wp2_with fail
  go_ret
  exact ⟨rfl, S5.out.bl⟩

end Go.Proofs.Ytmnlgeglmkdecaa
