/-
  The law's own count of poses.
-/
import Derived.Test.YtmnlgeglmkdecaaBenR
namespace Go.Proofs.Ytmnlgeglmkdecaa
open Go.RowKit

set_option maxHeartbeats 4000000 in
set_option maxRecDepth 100000 in
theorem lawPoses_any {L : Ll} (hr : Right L) {v : Lv} (hv : vErr v = 0) {b : Bool} (hb : decide (placeL L.bs L.bs.length / v.step ≤ 100) = b) (H : Hds) (hL : L.ok) (w : World) (hA : LnAt w w.heap.size L H) :
    Calls Try.prog 60 #[(.agg #[.string L.name, .slice H.j.A L.js.length H.j.c, .slice H.b.A L.bs.length H.b.c, .slice H.s.A L.ss.length H.s.c]), (.agg #[.int .i64 v.len, .int .i64 v.clear, .int .i64 v.step])] w fun e w' => e = .returned (.bool b) ∧ Below w.heap.size w w' := by
  have Q0 := Lib.hid (QV.start (v := v) hA)
  have HR := Lib.hid hr
  have h40 := hr.most
  obtain ⟨s1, s2⟩ := placeL_bound L.bs hr.b L.bs.length (Nat.le_refl _)
  obtain ⟨_, _, t1, t2⟩ := vErr_in hv
  obtain ⟨T, hT⟩ : ∃ T, placeL L.bs L.bs.length = T := ⟨_, rfl⟩
  rw [hT] at hb s1 s2
  have HT := Lib.hid hT
  have gz : (v.step == 0) = false := by simp; omega
  have hm1 : T.tdiv v.step = T / v.step := Int.tdiv_eq_ediv_of_nonneg (by omega)
  have hd0 : 0 ≤ T / v.step := Int.ediv_nonneg (by omega) (by omega)
  have hd1 : T / v.step ≤ T := Int.ediv_le_self _ (by omega)
  have ur : IntKind.i64.wrap (T.tdiv v.step) = T.tdiv v.step := IntWalk.i64_in _ (by omega)
  have ur2 : IntKind.i64.wrap (T / v.step) = T / v.step := IntWalk.i64_in _ (by omega)
  have HB := Lib.hid hb
  have HM := Lib.hid hm1
  clear hr hv hA hT hb
  by_cases hc : T / v.step ≤ 100
  all_goals
    have hc2 := hc
    rw [← HM.out] at hc2
    have HC := Lib.hid hc
    clear hm1
    go_enter Try.func60, Try.ntmps60
    go_wp2_with fail
    (first | go_region_with (first | (go_at_call 22; refine (refLengthOf_any HR.out H hL _ (QV.lnW (w := w) (v := v) (by first | exact Q0.out.drew | exact Q0.out))).mono ?_; rintro e w2 ⟨rfl, hb2⟩; rw [HT.out]; have Q2 : Hid (QV w w2 L H v) := Lib.hid (QV.from hb2 (by first | exact Q0.out.drew | exact Q0.out)); obtain ⟨q0, q1, q2⟩ := Q2.out.veh.three) | fail "arm") | fail "region")
    all_goals
      go_wp2_with fail
      go_ret
      exact ⟨ret_bool (by rw [← HB.out]; first | (simp [HC.out]; done) | (simp [HC.out, hc2]; done) | (simp; omega)), by first | exact Q2.out.bl | exact Q2.out.bl.drew | exact below_drewN Q2.out.bl _⟩

end Go.Proofs.Ytmnlgeglmkdecaa
