/-
  The walk of LineSurveys: the warmth in its bounds, a joint found.
-/
import Derived.Test.YtmnlgeglmkdecaaSurvL1
import Derived.Deep.DeepCutAuto
import Derived.Deep.CutRange
namespace Go.Proofs.Ytmnlgeglmkdecaa
open Go.RowKit

set_option maxHeartbeats 32000000 in
set_option maxRecDepth 100000 in
theorem LineSurveys_in_ok {L LA LB : Ll} (hL : L.ok) {H : Hds} (hH : HdsOk H) (hF : ∀ w : World, LnAt w w.heap.size L H → Calls Try.prog 16 #[(.agg #[.string L.name, .slice H.j.A L.js.length H.j.c, .slice H.b.A L.bs.length H.b.c, .slice H.s.A L.ss.length H.s.c])] w fun e w' => e = .returned (.bool true) ∧ Below w.heap.size w w') {jn flo fhi by_ : Int}  (hsa : (LA).small) (hsb : (LB).small) (HSV : ∀ (G : Hds) (u : World), LnAt u u.heap.size L G → HdsOk G → Calls Try.prog 66 #[(.agg #[.string L.name, .slice G.j.A L.js.length G.j.c, .slice G.b.A L.bs.length G.b.c, .slice G.s.A L.ss.length G.s.c]), .int .i64 jn, .agg #[.int .i64 flo, .int .i64 fhi]] u fun e u' => ∃ GA : Hds, e = .returned (.tuple #[(.agg #[.string LA.name, .slice GA.j.A LA.js.length GA.j.c, .slice GA.b.A LA.bs.length GA.b.c, .slice GA.s.A LA.ss.length GA.s.c]), .int .i64 0]) ∧ OLn u' 0 (LA) GA ∧ Below u.heap.size u u')
    (HWM : ∀ (G : Hds) (u : World), LnAt u u.heap.size L G → HdsOk G → Calls Try.prog 67 #[(.agg #[.string L.name, .slice G.j.A L.js.length G.j.c, .slice G.b.A L.bs.length G.b.c, .slice G.s.A L.ss.length G.s.c]), .int .i64 by_] u fun e u' => ∃ GA : Hds, e = .returned (.tuple #[(.agg #[.string LB.name, .slice GA.j.A LB.js.length GA.j.c, .slice GA.b.A LB.bs.length GA.b.c, .slice GA.s.A LB.ss.length GA.s.c]), .int .i64 0]) ∧ OLn u' 0 (LB) GA ∧ Below u.heap.size u u') (hck : ckLine L = ((0, 0), 0)) (hy : inB by_ 0 100 = true) (HRW : ∀ (u : World), LnAt u u.heap.size L H → Calls Try.prog 69 #[(.agg #[.string L.name, .slice H.j.A L.js.length H.j.c, .slice H.b.A L.bs.length H.b.c, .slice H.s.A L.ss.length H.s.c]), .int .i64 by_] u fun e u' => ∃ GW : Hds, e = .returned (.agg #[.string LB.name, .slice GW.j.A LB.js.length GW.j.c, .slice GW.b.A LB.bs.length GW.b.c, .slice GW.s.A LB.ss.length GW.s.c]) ∧ LnAt u' u'.heap.size LB GW ∧ Below u.heap.size u u') (hj : inB jn 0 (L.js.length - 1) = true) (HRS : ∀ (u : World), LnAt u u.heap.size L H → Calls Try.prog 70 #[(.agg #[.string L.name, .slice H.j.A L.js.length H.j.c, .slice H.b.A L.bs.length H.b.c, .slice H.s.A L.ss.length H.s.c]), .int .i64 jn, .agg #[.int .i64 flo, .int .i64 fhi]] u fun e u' => ∃ GW : Hds, e = .returned (.tuple #[(.agg #[.string LA.name, .slice GW.j.A LA.js.length GW.j.c, .slice GW.b.A LA.bs.length GW.b.c, .slice GW.s.A LA.ss.length GW.s.c]), .int .i64 0]) ∧ OLn u' 0 LA GW ∧ Below u.heap.size u u') {k : Nat} (hjn : jn = (k : Int)) {j j' : Lj} (hk : L.js[k]? = some j) (hk2 : LA.js[k]? = some j') (hin : j.lo ≤ j'.lo ∧ j'.lo ≤ j'.hi ∧ j'.hi ≤ j.hi)  (w : World) (hA : LnAt w w.heap.size L H) :
    Calls Try.prog 13 #[(.agg #[.string L.name, .slice H.j.A L.js.length H.j.c, .slice H.b.A L.bs.length H.b.c, .slice H.s.A L.ss.length H.s.c]), .agg #[.int .i64 jn, .int .i64 flo, .int .i64 fhi, .int .i64 by_]] w fun e w' => e = .returned (.bool true) ∧ Below w.heap.size w w' := by
  have S0 := Lib.hid (SL.start (jn := jn) (flo := flo) (fhi := fhi) (by_ := by_) hA)
  have HF := Lib.hid hF
  have HH := Lib.hid hH
  have HL := Lib.hid hL
  have HSA := Lib.hid hsa
  have HSB := Lib.hid hsb
  replace HSV := Lib.hid HSV
  replace HWM := Lib.hid HWM
  have hnj := hL.nj
  have HC := Lib.hid hck
  have HYB := Lib.hid hy
  replace HRW := Lib.hid HRW
  have HJI : Hid ((if inB jn 0 ((L.js.length : Int) - 1) = true then (0 : Int) else 6) = 0) := Lib.hid (by rw [hj]; rfl)
  replace HRS := Lib.hid HRS
  subst hjn
  have HKJ := Lib.hid hk
  have HKK := Lib.hid hk2
  obtain ⟨i1, i2, i3⟩ := hin
  have l1 : (k : Int) < (L.js.length : Int) := by have := (List.getElem?_eq_some_iff.1 hk).1; omega
  have l2 : (k : Int) < (LA.js.length : Int) := by have := (List.getElem?_eq_some_iff.1 hk2).1; omega
  clear hck hy hj hk hk2
  clear hA hF hH hL hsa hsb
  go_enter Try.func13, Try.ntmps13
  go_wp2_with fail
  refine (awake_any _).mono ?_
  rintro e w1 ⟨rfl, hb1⟩
  have S1_ := Lib.hid (SL.from hb1 S0.out)
  clear hb1 S0
  obtain ⟨c0, c1, c2, c3, v0, v1, v2, v3⟩ := S1_.out.all
  go_wp2_with fail
  refine (HF.out _ S1_.out.lnW).mono ?_
  rintro e w2 ⟨rfl, hb2⟩
  have S2_ := Lib.hid (SL.from hb2 S1_.out)
  clear hb2 S1_ c0 c1 c2 c3 v0 v1 v2 v3
  obtain ⟨c0, c1, c2, c3, v0, v1, v2, v3⟩ := S2_.out.all
  have HLX5 := Lib.hid S2_.out
  have HALL5 : Hid (∀ W : World, Below w2.heap.size w2 W → Below w2.heap.size w2 W ∧ W.cell? ⟨w.heap.size, 0, none⟩ = some (.string L.name) ∧ W.cell? ⟨w.heap.size, 1, none⟩ = some (.slice H.j.A L.js.length H.j.c) ∧ W.cell? ⟨w.heap.size, 2, none⟩ = some (.slice H.b.A L.bs.length H.b.c) ∧ W.cell? ⟨w.heap.size, 3, none⟩ = some (.slice H.s.A L.ss.length H.s.c) ∧ W.cell? ⟨w.heap.size + 1, 0, none⟩ = some (.int .i64 (k : Int)) ∧ W.cell? ⟨w.heap.size + 1, 1, none⟩ = some (.int .i64 flo) ∧ W.cell? ⟨w.heap.size + 1, 2, none⟩ = some (.int .i64 fhi) ∧ W.cell? ⟨w.heap.size + 1, 3, none⟩ = some (.int .i64 by_)) := Lib.hid (fun W h => ⟨h, (SL.from h HLX5.out).all⟩)
  go_upto_region 5 with fail
  go_cut [5, 6] from 20 (fun sa sb wx => ∃ (ga : Nat) (GA : Hds), sa = .pointer (some ⟨ga, 0, none⟩) ∧ sb = .int .i64 0 ∧ Below w2.heap.size w2 wx ∧ OLn wx 0 LA GA ∧ wx.cell? ⟨ga, 0, none⟩ = some (.string LA.name) ∧ wx.cell? ⟨ga, 1, none⟩ = some (.slice GA.j.A LA.js.length GA.j.c) ∧ wx.cell? ⟨ga, 2, none⟩ = some (.slice GA.b.A LA.bs.length GA.b.c) ∧ wx.cell? ⟨ga, 3, none⟩ = some (.slice GA.s.A LA.ss.length GA.s.c))
  case first =>
    go_region_held3 (fun W => Below w2.heap.size w2 W ∧ W.cell? ⟨w.heap.size, 0, none⟩ = some (.string L.name) ∧ W.cell? ⟨w.heap.size, 1, none⟩ = some (.slice H.j.A L.js.length H.j.c) ∧ W.cell? ⟨w.heap.size, 2, none⟩ = some (.slice H.b.A L.bs.length H.b.c) ∧ W.cell? ⟨w.heap.size, 3, none⟩ = some (.slice H.s.A L.ss.length H.s.c) ∧ W.cell? ⟨w.heap.size + 1, 0, none⟩ = some (.int .i64 (k : Int)) ∧ W.cell? ⟨w.heap.size + 1, 1, none⟩ = some (.int .i64 flo) ∧ W.cell? ⟨w.heap.size + 1, 2, none⟩ = some (.int .i64 fhi) ∧ W.cell? ⟨w.heap.size + 1, 3, none⟩ = some (.int .i64 by_))
      ((go_split_ands; refine HALL5.out _ ?_; (first | assumption | exact (Below.refl _ _).drew | (repeat (first | assumption | exact Below.refl _ _ | refine Below.alloc ?_ (by first | exact Nat.le_refl _ | omega | (simp; done) | (simp; omega)) _ | refine Below.drew ?_ | (refine Below.setCell ?_ (by first | exact Nat.le_refl _ | omega | (simp; done) | (simp; omega)) _)))); done))
      ((first | (go_at_call 18; go_split_ands; refine (Copy_any L H HL.out HH.out _ (lnB HLX5.out.lnW (by assumption))).mono ?_; rintro e wC ⟨GC, rfl, hGC, hOC, hbC⟩; have SC : Below w2.heap.size w2 wC := Below.trans (by assumption) (hbC.mono (by first | exact Nat.le_refl _ | (simp; done) | (simp; omega))); have zC := SC.size; have AC := Lib.hid hGC; have OC := Lib.hid hOC; clear hGC hOC; (first | (have N0 : Bk wC w2.heap.size 26 #[.string ⟨#[]⟩, .slice none 0 0, .slice none 0 0, .slice none 0 0] := Bk.call ((Bk.new w2 26 #[.string ⟨#[]⟩, .slice none 0 0, .slice none 0 0, .slice none 0 0]).drew) hbC; obtain ⟨n0, n1, n2, n3⟩ := N0.four; obtain ⟨nf0, nf1, nf2, nf3⟩ : _ ∧ _ ∧ _ ∧ _ := ⟨N0.frozen 0, N0.frozen 1, N0.frozen 2, N0.frozen 3⟩) | skip)) | (go_at_call 66; go_split_ands; refine (HSV.out GC _ (by first | exact AC.out | exact AC.out.allocX _) OC.out).mono ?_; rintro e wD ⟨GD, rfl, hOD, hbD⟩; have SD : Below w2.heap.size w2 wD := Below.trans (by assumption) (hbD.mono (by first | exact zC | (simp; omega))); have zD := SD.size; have OD := Lib.hid hOD; clear hOD; (first | (have M0 : Bk wD w2.heap.size 26 #[.string ⟨#[]⟩, .slice none 0 0, .slice none 0 0, .slice none 0 0] := Bk.call N0 hbD; obtain ⟨m0, m1, m2, m3⟩ := M0.four; obtain ⟨mf0, mf1, mf2, mf3⟩ : _ ∧ _ ∧ _ ∧ _ := ⟨M0.frozen 0, M0.frozen 1, M0.frozen 2, M0.frozen 3⟩) | skip); (first | (have K0 : Bk wD wC.heap.size 26 #[.string ⟨#[]⟩, .slice none 0 0, .slice none 0 0, .slice none 0 0] := Bk.call (Bk.new wC 26 #[.string ⟨#[]⟩, .slice none 0 0, .slice none 0 0, .slice none 0 0]) hbD; obtain ⟨k0, k1, k2, k3⟩ := K0.four; obtain ⟨kf0, kf1, kf2, kf3⟩ : _ ∧ _ ∧ _ ∧ _ := ⟨K0.frozen 0, K0.frozen 1, K0.frozen 2, K0.frozen 3⟩) | skip)) | fail "arm"))
    all_goals
      go_split_ands
      go_wp2_with fail
      go_meet
      refine ⟨_, GD, rfl, rfl, by assumption, ?_, ?_, ?_, ?_, ?_⟩
    all_goals (first | (go_simp; done) | (simp [*]; done) | exact OD.out.below ((Below.refl _ wD).alloc (Nat.le_refl _) _) | exact OLn.off4 OD.out M0 _ _ _ _ | exact OLn.off4 OD.out K0 _ _ _ _ | fail "own")
  case rest =>
  obtain ⟨w5x, rfl⟩ : ∃ W, W = wc := ⟨_, rfl⟩
  obtain ⟨gA, GA, rfl, rfl, hbx, hox, q0, q1, q2, q3⟩ := hcut
  have S105_ := Lib.hid (SL.from hbx S2_.out)
  have Ar := Lib.hid (LC.mk q0 q1 q2 q3 : LC w5x gA LA GA)
  have OAr := Lib.hid hox
  clear hbx hox q0 q1 q2 q3 HALL5 HLX5 S2_ c0 c1 c2 c3 v0 v1 v2 v3
  obtain ⟨c0, c1, c2, c3, v0, v1, v2, v3⟩ := S105_.out.all
  obtain ⟨a0, a1, a2, a3⟩ := Ar.out
  have HLX6 := Lib.hid S105_.out
  have HALL6 : Hid (∀ W : World, Below w5x.heap.size w5x W → Below w5x.heap.size w5x W ∧ W.cell? ⟨w.heap.size, 0, none⟩ = some (.string L.name) ∧ W.cell? ⟨w.heap.size, 1, none⟩ = some (.slice H.j.A L.js.length H.j.c) ∧ W.cell? ⟨w.heap.size, 2, none⟩ = some (.slice H.b.A L.bs.length H.b.c) ∧ W.cell? ⟨w.heap.size, 3, none⟩ = some (.slice H.s.A L.ss.length H.s.c) ∧ W.cell? ⟨w.heap.size + 1, 0, none⟩ = some (.int .i64 (k : Int)) ∧ W.cell? ⟨w.heap.size + 1, 1, none⟩ = some (.int .i64 flo) ∧ W.cell? ⟨w.heap.size + 1, 2, none⟩ = some (.int .i64 fhi) ∧ W.cell? ⟨w.heap.size + 1, 3, none⟩ = some (.int .i64 by_)) := Lib.hid (fun W h => ⟨h, (SL.from h HLX6.out).all⟩)
  go_upto_region 6 with fail
  go_cut [7, 8] from 30 (fun sa sb wx => ∃ (ga : Nat) (GA : Hds), sa = .pointer (some ⟨ga, 0, none⟩) ∧ sb = .int .i64 0 ∧ Below w5x.heap.size w5x wx ∧ OLn wx 0 LB GA ∧ wx.cell? ⟨ga, 0, none⟩ = some (.string LB.name) ∧ wx.cell? ⟨ga, 1, none⟩ = some (.slice GA.j.A LB.js.length GA.j.c) ∧ wx.cell? ⟨ga, 2, none⟩ = some (.slice GA.b.A LB.bs.length GA.b.c) ∧ wx.cell? ⟨ga, 3, none⟩ = some (.slice GA.s.A LB.ss.length GA.s.c))
  case first =>
    go_region_held3 (fun W => Below w5x.heap.size w5x W ∧ W.cell? ⟨w.heap.size, 0, none⟩ = some (.string L.name) ∧ W.cell? ⟨w.heap.size, 1, none⟩ = some (.slice H.j.A L.js.length H.j.c) ∧ W.cell? ⟨w.heap.size, 2, none⟩ = some (.slice H.b.A L.bs.length H.b.c) ∧ W.cell? ⟨w.heap.size, 3, none⟩ = some (.slice H.s.A L.ss.length H.s.c) ∧ W.cell? ⟨w.heap.size + 1, 0, none⟩ = some (.int .i64 (k : Int)) ∧ W.cell? ⟨w.heap.size + 1, 1, none⟩ = some (.int .i64 flo) ∧ W.cell? ⟨w.heap.size + 1, 2, none⟩ = some (.int .i64 fhi) ∧ W.cell? ⟨w.heap.size + 1, 3, none⟩ = some (.int .i64 by_))
      ((go_split_ands; refine HALL6.out _ ?_; (first | assumption | exact (Below.refl _ _).drew | (repeat (first | assumption | exact Below.refl _ _ | refine Below.alloc ?_ (by first | exact Nat.le_refl _ | omega | (simp; done) | (simp; omega)) _ | refine Below.drew ?_ | (refine Below.setCell ?_ (by first | exact Nat.le_refl _ | omega | (simp; done) | (simp; omega)) _)))); done))
      ((first | (go_at_call 18; go_split_ands; refine (Copy_any L H HL.out HH.out _ (lnB HLX6.out.lnW (by assumption))).mono ?_; rintro e wC ⟨GC, rfl, hGC, hOC, hbC⟩; have SC : Below w5x.heap.size w5x wC := Below.trans (by assumption) (hbC.mono (by first | exact Nat.le_refl _ | (simp; done) | (simp; omega))); have zC := SC.size; have AC := Lib.hid hGC; have OC := Lib.hid hOC; clear hGC hOC; (first | (have N0 : Bk wC w5x.heap.size 26 #[.string ⟨#[]⟩, .slice none 0 0, .slice none 0 0, .slice none 0 0] := Bk.call ((Bk.new w5x 26 #[.string ⟨#[]⟩, .slice none 0 0, .slice none 0 0, .slice none 0 0]).drew) hbC; obtain ⟨n0, n1, n2, n3⟩ := N0.four; obtain ⟨nf0, nf1, nf2, nf3⟩ : _ ∧ _ ∧ _ ∧ _ := ⟨N0.frozen 0, N0.frozen 1, N0.frozen 2, N0.frozen 3⟩) | skip)) | (go_at_call 67; go_split_ands; refine (HWM.out GC _ (by first | exact AC.out | exact AC.out.allocX _) OC.out).mono ?_; rintro e wD ⟨GD, rfl, hOD, hbD⟩; have SD : Below w5x.heap.size w5x wD := Below.trans (by assumption) (hbD.mono (by first | exact zC | (simp; omega))); have zD := SD.size; have OD := Lib.hid hOD; clear hOD; (first | (have M0 : Bk wD w5x.heap.size 26 #[.string ⟨#[]⟩, .slice none 0 0, .slice none 0 0, .slice none 0 0] := Bk.call N0 hbD; obtain ⟨m0, m1, m2, m3⟩ := M0.four; obtain ⟨mf0, mf1, mf2, mf3⟩ : _ ∧ _ ∧ _ ∧ _ := ⟨M0.frozen 0, M0.frozen 1, M0.frozen 2, M0.frozen 3⟩) | skip); (first | (have K0 : Bk wD wC.heap.size 26 #[.string ⟨#[]⟩, .slice none 0 0, .slice none 0 0, .slice none 0 0] := Bk.call (Bk.new wC 26 #[.string ⟨#[]⟩, .slice none 0 0, .slice none 0 0, .slice none 0 0]) hbD; obtain ⟨k0, k1, k2, k3⟩ := K0.four; obtain ⟨kf0, kf1, kf2, kf3⟩ : _ ∧ _ ∧ _ ∧ _ := ⟨K0.frozen 0, K0.frozen 1, K0.frozen 2, K0.frozen 3⟩) | skip)) | fail "arm"))
    all_goals
      go_split_ands
      go_wp2_with fail
      go_meet
      refine ⟨_, GD, rfl, rfl, by assumption, ?_, ?_, ?_, ?_, ?_⟩
    all_goals (first | (go_simp; done) | (simp [*]; done) | exact OD.out.below ((Below.refl _ wD).alloc (Nat.le_refl _) _) | exact OLn.off4 OD.out M0 _ _ _ _ | exact OLn.off4 OD.out K0 _ _ _ _ | fail "own")
  case rest =>
  obtain ⟨w6x, rfl⟩ : ∃ W, W = wc := ⟨_, rfl⟩
  obtain ⟨gB, GB, rfl, rfl, hbx, hox, q0, q1, q2, q3⟩ := hcut
  have S106_ := Lib.hid (SL.from hbx S105_.out)
  have A106_ := Lib.hid (LC.from hbx Ar.out)
  have OA106_ := Lib.hid ((fun hb h => OLn.below h hb) hbx OAr.out)
  have Br := Lib.hid (LC.mk q0 q1 q2 q3 : LC w6x gB LB GB)
  have OBr := Lib.hid hox
  clear hbx hox q0 q1 q2 q3 HALL6 HLX6 S105_ Ar OAr c0 c1 c2 c3 v0 v1 v2 v3 a0 a1 a2 a3
  have hbn := (Below.refl w6x.heap.size w6x).alloc (Nat.le_refl _) (.cells #[.string ⟨#[]⟩, .slice none 0 0, .slice none 0 0, .slice none 0 0] 26)
  have S200_ := Lib.hid (SL.from hbn S106_.out)
  have A200_ := Lib.hid (LC.from hbn A106_.out)
  have OA200_ := Lib.hid ((fun hb h => OLn.below h hb) hbn OA106_.out)
  have B200_ := Lib.hid (LC.from hbn Br.out)
  have OB200_ := Lib.hid ((fun hb h => OLn.below h hb) hbn OBr.out)
  have Nb := Bk.new w6x 26 #[.string ⟨#[]⟩, .slice none 0 0, .slice none 0 0, .slice none 0 0]
  have Nr := Lib.hid (LC.mk (Nb.cell 0) (Nb.cell 1) (Nb.cell 2) (Nb.cell 3) : LC _ w6x.heap.size zL zG)
  clear hbn Nb S106_ A106_ OA106_ Br OBr
  obtain ⟨c0, c1, c2, c3, v0, v1, v2, v3⟩ := S200_.out.all
  obtain ⟨a0, a1, a2, a3⟩ := A200_.out
  obtain ⟨b0, b1, b2, b3⟩ := B200_.out
  obtain ⟨n0, n1, n2, n3⟩ := Nr.out
  go_wp2_with fail
  refine (LineErr_is HC.out H HL.out _ S200_.out.lnW).mono ?_
  rintro e w3 ⟨rfl, hb3⟩
  have S3_ := Lib.hid (SL.from hb3 S200_.out)
  have A3_ := Lib.hid (LC.from hb3 A200_.out)
  have OA3_ := Lib.hid ((fun hb h => OLn.below h hb) hb3 OA200_.out)
  have B3_ := Lib.hid (LC.from hb3 B200_.out)
  have OB3_ := Lib.hid ((fun hb h => OLn.below h hb) hb3 OB200_.out)
  have N3_ := Lib.hid (LC.from hb3 Nr.out)
  clear hb3 S200_ A200_ OA200_ B200_ OB200_ Nr c0 c1 c2 c3 v0 v1 v2 v3 a0 a1 a2 a3 b0 b1 b2 b3 n0 n1 n2 n3
  obtain ⟨c0, c1, c2, c3, v0, v1, v2, v3⟩ := S3_.out.all
  obtain ⟨b0, b1, b2, b3⟩ := B3_.out
  obtain ⟨n0, n1, n2, n3⟩ := N3_.out
  have HL14 := Lib.hid S3_.out
  have HO14 := Lib.hid OB3_.out
  have HB14 := Lib.hid B3_.out
  have HALL14 : Hid (∀ W : World, Below w3.heap.size w3 W → Below w3.heap.size w3 W ∧ W.cell? ⟨w.heap.size, 0, none⟩ = some (.string L.name) ∧ W.cell? ⟨w.heap.size, 1, none⟩ = some (.slice H.j.A L.js.length H.j.c) ∧ W.cell? ⟨w.heap.size, 2, none⟩ = some (.slice H.b.A L.bs.length H.b.c) ∧ W.cell? ⟨w.heap.size, 3, none⟩ = some (.slice H.s.A L.ss.length H.s.c) ∧ W.cell? ⟨w.heap.size + 1, 0, none⟩ = some (.int .i64 (k : Int)) ∧ W.cell? ⟨w.heap.size + 1, 1, none⟩ = some (.int .i64 flo) ∧ W.cell? ⟨w.heap.size + 1, 2, none⟩ = some (.int .i64 fhi) ∧ W.cell? ⟨w.heap.size + 1, 3, none⟩ = some (.int .i64 by_) ∧ W.cell? ⟨gB, 0, none⟩ = some (.string LB.name) ∧ W.cell? ⟨gB, 1, none⟩ = some (.slice GB.j.A LB.js.length GB.j.c) ∧ W.cell? ⟨gB, 2, none⟩ = some (.slice GB.b.A LB.bs.length GB.b.c) ∧ W.cell? ⟨gB, 3, none⟩ = some (.slice GB.s.A LB.ss.length GB.s.c)) := Lib.hid (fun W h => by
    have c := (SL.from h HL14.out).all
    have b := LC.from h HB14.out
    exact ⟨h, c.1, c.2.1, c.2.2.1, c.2.2.2.1, c.2.2.2.2.1, c.2.2.2.2.2.1, c.2.2.2.2.2.2.1, c.2.2.2.2.2.2.2, b.k0, b.k1, b.k2, b.k3⟩)
  go_upto_region 14 with (go_at_call 34; refine (Within_any _ _ _ _).mono ?_; rintro e w' ⟨rfl, rfl⟩; rw [HYB.out])
  go_region_held3 (fun W => Below w3.heap.size w3 W ∧ W.cell? ⟨w.heap.size, 0, none⟩ = some (.string L.name) ∧ W.cell? ⟨w.heap.size, 1, none⟩ = some (.slice H.j.A L.js.length H.j.c) ∧ W.cell? ⟨w.heap.size, 2, none⟩ = some (.slice H.b.A L.bs.length H.b.c) ∧ W.cell? ⟨w.heap.size, 3, none⟩ = some (.slice H.s.A L.ss.length H.s.c) ∧ W.cell? ⟨w.heap.size + 1, 0, none⟩ = some (.int .i64 (k : Int)) ∧ W.cell? ⟨w.heap.size + 1, 1, none⟩ = some (.int .i64 flo) ∧ W.cell? ⟨w.heap.size + 1, 2, none⟩ = some (.int .i64 fhi) ∧ W.cell? ⟨w.heap.size + 1, 3, none⟩ = some (.int .i64 by_) ∧ W.cell? ⟨gB, 0, none⟩ = some (.string LB.name) ∧ W.cell? ⟨gB, 1, none⟩ = some (.slice GB.j.A LB.js.length GB.j.c) ∧ W.cell? ⟨gB, 2, none⟩ = some (.slice GB.b.A LB.bs.length GB.b.c) ∧ W.cell? ⟨gB, 3, none⟩ = some (.slice GB.s.A LB.ss.length GB.s.c))
    ((go_split_ands; refine HALL14.out _ ?_; (first | assumption | exact (Below.refl _ _).drew); done))
    ((first | (go_at_call 69; go_split_ands; refine (HRW.out _ (lnB HL14.out.lnW (by assumption))).mono ?_; rintro e wC ⟨GW, rfl, hGW, hbC⟩; have SC : Below w3.heap.size w3 wC := Below.trans (by assumption) (hbC.mono (by first | exact Nat.le_refl _ | (simp; done) | (simp; omega))); have zC := SC.size; have AW := Lib.hid hGW; clear hGW) | (go_at_call 68; go_split_ands; refine (Same_any (L := LB) HSB.out GB GW _ (lnB HO14.out.at_ (by assumption)) AW.out).mono ?_; rintro e wD ⟨rfl, hbD⟩; have SD : Below w3.heap.size w3 wD := Below.trans (by assumption) (hbD.mono (by first | exact zC | (simp; omega)))) | fail "arm"))
  all_goals
    go_split_ands
    have hbx : Below w3.heap.size w3 wD := by assumption
    have S300_ := Lib.hid (SL.from hbx S3_.out)
    have A300_ := Lib.hid (LC.from hbx A3_.out)
    have OA300_ := Lib.hid ((fun hb h => OLn.below h hb) hbx OA3_.out)
    have B300_ := Lib.hid (LC.from hbx B3_.out)
    have OB300_ := Lib.hid ((fun hb h => OLn.below h hb) hbx OB3_.out)
    have N300_ := Lib.hid (LC.from hbx N3_.out)
    clear hbx HALL14 HL14 HO14 HB14 S3_ A3_ OA3_ B3_ OB3_ N3_ c0 c1 c2 c3 v0 v1 v2 v3 b0 b1 b2 b3 n0 n1 n2 n3
    obtain ⟨c0, c1, c2, c3, v0, v1, v2, v3⟩ := S300_.out.all
    go_wp2_with fail
    refine (JointErr_any (L := L) hnj H (k : Int) _).mono ?_
    rintro e w4 ⟨rfl, hb4⟩
    rw [HJI.out]
    have S4_ := Lib.hid (SL.from hb4 S300_.out)
    have A4_ := Lib.hid (LC.from hb4 A300_.out)
    have OA4_ := Lib.hid ((fun hb h => OLn.below h hb) hb4 OA300_.out)
    have B4_ := Lib.hid (LC.from hb4 B300_.out)
    have OB4_ := Lib.hid ((fun hb h => OLn.below h hb) hb4 OB300_.out)
    have N4_ := Lib.hid (LC.from hb4 N300_.out)
    clear hb4 S300_ A300_ OA300_ B300_ OB300_ N300_ c0 c1 c2 c3 v0 v1 v2 v3
    have hbw := (Below.refl w4.heap.size w4).alloc (Nat.le_refl _) (.cells #[.string ⟨#[]⟩, .slice none 0 0, .slice none 0 0, .slice none 0 0] 26)
    have Wb := Lib.hid (Bk.new w4 26 #[.string ⟨#[]⟩, .slice none 0 0, .slice none 0 0, .slice none 0 0])
    have S400_ := Lib.hid (SL.from hbw S4_.out)
    have A400_ := Lib.hid (LC.from hbw A4_.out)
    have OA400_ := Lib.hid ((fun hb h => OLn.below h hb) hbw OA4_.out)
    have B400_ := Lib.hid (LC.from hbw B4_.out)
    have OB400_ := Lib.hid ((fun hb h => OLn.below h hb) hbw OB4_.out)
    have N400_ := Lib.hid (LC.from hbw N4_.out)
    obtain ⟨c0, c1, c2, c3, v0, v1, v2, v3⟩ := S400_.out.all
    go_wp2_with fail
    refine (HRS.out _ S400_.out.lnW).mono ?_
    rintro e w5 ⟨GW, rfl, hOW, hb5⟩
    have Wb2 := Lib.hid (Wb.out.call hb5)
    have hbj : Below w4.heap.size w4 w5 := hbw.trans (hb5.mono (by simp))
    clear c0 c1 c2 c3 v0 v1 v2 v3
    obtain ⟨x0, x1, x2, x3⟩ := Wb2.out.four
    obtain ⟨f0, f1, f2, f3⟩ : _ ∧ _ ∧ _ ∧ _ := ⟨Wb2.out.frozen 0, Wb2.out.frozen 1, Wb2.out.frozen 2, Wb2.out.frozen 3⟩
    have hbf : Below w4.heap.size w4 ((((w5.setCell ⟨w4.heap.size, 0, none⟩ (.string LA.name)).setCell ⟨w4.heap.size, 1, none⟩ (.slice GW.j.A LA.js.length GW.j.c)).setCell ⟨w4.heap.size, 2, none⟩ (.slice GW.b.A LA.bs.length GW.b.c)).setCell ⟨w4.heap.size, 3, none⟩ (.slice GW.s.A LA.ss.length GW.s.c)) := (((hbj.setCell (Nat.le_refl _) _).setCell (Nat.le_refl _) _).setCell (Nat.le_refl _) _).setCell (Nat.le_refl _) _
    have OW := Lib.hid (OLn.off4 hOW Wb2.out (.string LA.name) (.slice GW.j.A LA.js.length GW.j.c) (.slice GW.b.A LA.bs.length GW.b.c) (.slice GW.s.A LA.ss.length GW.s.c))
    have Wp := Lib.hid ((((Wb2.out.put 0 (.string LA.name)).put 1 (.slice GW.j.A LA.js.length GW.j.c)).put 2 (.slice GW.b.A LA.bs.length GW.b.c)).put 3 (.slice GW.s.A LA.ss.length GW.s.c))
    have Wr := Lib.hid (LC.mk (Wp.out.cell 0) (Wp.out.cell 1) (Wp.out.cell 2) (Wp.out.cell 3) : LC ((((w5.setCell ⟨w4.heap.size, 0, none⟩ (.string LA.name)).setCell ⟨w4.heap.size, 1, none⟩ (.slice GW.j.A LA.js.length GW.j.c)).setCell ⟨w4.heap.size, 2, none⟩ (.slice GW.b.A LA.bs.length GW.b.c)).setCell ⟨w4.heap.size, 3, none⟩ (.slice GW.s.A LA.ss.length GW.s.c)) w4.heap.size LA GW)
    have S500_ := Lib.hid (SL.from hbf S4_.out)
    have A500_ := Lib.hid (LC.from hbf A4_.out)
    have OA500_ := Lib.hid ((fun hb h => OLn.below h hb) hbf OA4_.out)
    have B500_ := Lib.hid (LC.from hbf B4_.out)
    have OB500_ := Lib.hid ((fun hb h => OLn.below h hb) hbf OB4_.out)
    have N500_ := Lib.hid (LC.from hbf N4_.out)
    clear hbf hbj hbw Wb Wp hb5 hOW S400_ A400_ OA400_ B400_ OB400_ N400_ S4_ A4_ OA4_ B4_ OB4_ N4_
    obtain ⟨a0, a1, a2, a3⟩ := A500_.out
    obtain ⟨u0, u1, u2, u3⟩ := Wr.out
    go_wp2_with fail
    refine (Same_any (L := LA) HSA.out GA GW _ OA500_.out.at_ (OW.out.at_)).mono ?_
    rintro e w6 ⟨rfl, hb6⟩
    have S6_ := Lib.hid (SL.from hb6 S500_.out)
    have A6_ := Lib.hid (LC.from hb6 A500_.out)
    have OA6_ := Lib.hid ((fun hb h => OLn.below h hb) hb6 OA500_.out)
    have B6_ := Lib.hid (LC.from hb6 B500_.out)
    have OB6_ := Lib.hid ((fun hb h => OLn.below h hb) hb6 OB500_.out)
    have N6_ := Lib.hid (LC.from hb6 N500_.out)
    have W6_ := Lib.hid (LC.from hb6 Wr.out)
    have OW6_ := Lib.hid ((fun hb h => OLn.below h hb) hb6 OW.out)
    clear hb6 S500_ A500_ OA500_ B500_ OB500_ N500_ Wr OW a0 a1 a2 a3 u0 u1 u2 u3 x0 x1 x2 x3 f0 f1 f2 f3 Wb2
    obtain ⟨c0, c1, c2, c3, v0, v1, v2, v3⟩ := S6_.out.all
    obtain ⟨a0, a1, a2, a3⟩ := A6_.out
    have HL24 := Lib.hid S6_.out
    have HA24 := Lib.hid A6_.out
    have HO24 := Lib.hid OA6_.out
    obtain ⟨a, ha, _, y0, y1, y2, y3⟩ := S6_.out.ln.joint_ HKJ.out
    obtain ⟨b, hb, _, z0, z1, z2, z3⟩ := OA6_.out.at_.joint_ HKK.out
    have HEA := Lib.hid ha
    have HEB := Lib.hid hb
    have HALL24 : Hid (∀ W : World, Below w6.heap.size w6 W → Below w6.heap.size w6 W ∧ W.cell? ⟨w.heap.size, 1, none⟩ = some (.slice (some a) L.js.length H.j.c) ∧ W.cell? ⟨w.heap.size + 1, 0, none⟩ = some (.int .i64 (k : Int)) ∧ W.cell? ⟨gA, 1, none⟩ = some (.slice (some b) LA.js.length GA.j.c) ∧ W.cell? ⟨(a.add (k * 4)).block, (a.add (k * 4)).off + 2, none⟩ = some (.int .i64 j.lo) ∧ W.cell? ⟨(a.add (k * 4)).block, (a.add (k * 4)).off + 3, none⟩ = some (.int .i64 j.hi) ∧ W.cell? ⟨(b.add (k * 4)).block, (b.add (k * 4)).off + 2, none⟩ = some (.int .i64 j'.lo) ∧ W.cell? ⟨(b.add (k * 4)).block, (b.add (k * 4)).off + 3, none⟩ = some (.int .i64 j'.hi)) := Lib.hid (fun W h => by
      have c := (SL.from h HL24.out).all
      have d := LC.from h HA24.out
      obtain ⟨a', ha', _, _, _, u2, u3⟩ := (SL.from h HL24.out).ln.joint_ HKJ.out
      obtain ⟨b', hb', _, _, _, t2, t3⟩ := (HO24.out.below h).at_.joint_ HKK.out
      rw [HEA.out] at ha'
      rw [HEB.out] at hb'
      injection ha' with ha'
      injection hb' with hb'
      subst ha'
      subst hb'
      have c1 := c.2.1
      rw [HEA.out] at c1
      have d1 := d.k1
      rw [HEB.out] at d1
      exact ⟨h, c1, c.2.2.2.2.1, d1, u2, u3, t2, t3⟩)
    rw [ha] at c1
    rw [hb] at a1
    clear ha hb
    go_upto_region 24 with fail
    go_cut [13, 14] from 110 (fun sa sb wx => ∃ (p q : Nat), sa = .pointer (some ⟨p, 0, none⟩) ∧ sb = .pointer (some ⟨q, 0, none⟩) ∧ Below w6.heap.size w6 wx ∧ wx.cell? ⟨p, 0, none⟩ = some (.int .i64 j.lo) ∧ wx.cell? ⟨p, 1, none⟩ = some (.int .i64 j.hi) ∧ wx.cell? ⟨q, 0, none⟩ = some (.int .i64 j'.lo) ∧ wx.cell? ⟨q, 1, none⟩ = some (.int .i64 j'.hi))
    case first =>
      go_region_held3 (fun W => Below w6.heap.size w6 W ∧ W.cell? ⟨w.heap.size, 1, none⟩ = some (.slice (some a) L.js.length H.j.c) ∧ W.cell? ⟨w.heap.size + 1, 0, none⟩ = some (.int .i64 (k : Int)) ∧ W.cell? ⟨gA, 1, none⟩ = some (.slice (some b) LA.js.length GA.j.c) ∧ W.cell? ⟨(a.add (k * 4)).block, (a.add (k * 4)).off + 2, none⟩ = some (.int .i64 j.lo) ∧ W.cell? ⟨(a.add (k * 4)).block, (a.add (k * 4)).off + 3, none⟩ = some (.int .i64 j.hi) ∧ W.cell? ⟨(b.add (k * 4)).block, (b.add (k * 4)).off + 2, none⟩ = some (.int .i64 j'.lo) ∧ W.cell? ⟨(b.add (k * 4)).block, (b.add (k * 4)).off + 3, none⟩ = some (.int .i64 j'.hi))
        ((go_split_ands; refine HALL24.out _ ?_; (first | assumption | exact (Below.refl _ _).drew | (repeat (first | assumption | exact Below.refl _ _ | refine Below.alloc ?_ (by first | exact Nat.le_refl _ | omega | (simp; done) | (simp; omega)) _ | refine Below.drew ?_ | (refine Below.setCell ?_ (by first | exact Nat.le_refl _ | omega | (simp; done) | (simp; omega)) _)))); done))
        (fail "arm")
      all_goals
        go_split_ands
        go_wp2_with fail
        go_meet
        refine ⟨_, _, rfl, rfl, by assumption, ?_, ?_, ?_, ?_⟩
      all_goals (first | (go_simp; done) | (simp [*]; done) | skip)
    case rest =>
    obtain ⟨p, q, rfl, rfl, hbx, p0, p1, q0, q1⟩ := hcut
    have S600_ := Lib.hid (SL.from hbx S6_.out)
    have A600_ := Lib.hid (LC.from hbx A6_.out)
    have OA600_ := Lib.hid ((fun hb h => OLn.below h hb) hbx OA6_.out)
    have B600_ := Lib.hid (LC.from hbx B6_.out)
    have OB600_ := Lib.hid ((fun hb h => OLn.below h hb) hbx OB6_.out)
    have N600_ := Lib.hid (LC.from hbx N6_.out)
    have W600_ := Lib.hid (LC.from hbx W6_.out)
    have OW600_ := Lib.hid ((fun hb h => OLn.below h hb) hbx OW6_.out)
    clear hbx HALL24 HL24 HA24 HO24 y0 y1 y2 y3 z0 z1 z2 z3 S6_ A6_ OA6_ B6_ OB6_ N6_ W6_ OW6_ c0 c1 c2 c3 v0 v1 v2 v3 a0 a1 a2 a3
    go_wp2_with fail
    go_ret
    exact ⟨rfl, S600_.out.bl⟩

end Go.Proofs.Ytmnlgeglmkdecaa
