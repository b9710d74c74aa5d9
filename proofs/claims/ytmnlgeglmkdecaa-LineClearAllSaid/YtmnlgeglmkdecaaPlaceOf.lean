/-
  The walk of PlaceOf.
-/
import Derived.Test.YtmnlgeglmkdecaaPlace
namespace Go.Proofs.Ytmnlgeglmkdecaa
open Go.RowKit

def placeErr (L : Ll) (j : Int) : Int × Int := if (ckLine L).2 ≠ 0 then (0, (ckLine L).2) else if inB j 0 (L.js.length - 1) then (placeL L.bs j.toNat, 0) else (0, 6)

set_option maxHeartbeats 1000000 in
theorem PlaceOf_any {L : Ll} (H : Hds) (hL : L.ok) (j : Int) (w : World) (hA : LnAt w w.heap.size L H) :
    Calls Try.prog 20 #[(.agg #[.string L.name, .slice H.j.A L.js.length H.j.c, .slice H.b.A L.bs.length H.b.c, .slice H.s.A L.ss.length H.s.c]), .int .i64 j] w fun e w' => e = .returned (.tuple #[.int .i64 (placeErr L j).1, .int .i64 (placeErr L j).2]) ∧ Below w.heap.size w w' := by
  have b0 := (Below.refl w.heap.size w).alloc (Nat.le_refl _) (.cells #[.string L.name, .slice H.j.A L.js.length H.j.c, .slice H.b.A L.bs.length H.b.c, .slice H.s.A L.ss.length H.s.c] 26)
  have HB := Lib.hid b0
  have HA := Lib.hid ((hA.below b0).more HB.out.size)
  clear b0 hA
  rcases ck_cases L with ⟨m1, m2, er, hck, he, hc⟩ | ⟨hr, hck⟩
  · have ge : (er != 0) = true := by simp [he]
    have hv := Lib.hid (show placeErr L j = (0, er) by unfold placeErr; rw [hc, if_pos he])
    have HC := Lib.hid hck
    have HE := Lib.hid he
    clear hck he hc
    go_enter Try.func20, Try.ntmps20
    go_wp2_with (go_at_call 80; refine (check_bad HC.out HE.out H hL _ HA.out).mono ?_; rintro e w1 ⟨rfl, hb1⟩)
    go_ret2
    refine ⟨by rw [hv.out]; rfl, ?_⟩
    exact (HB.out.trans (hb1.mono HB.out.size)).alloc (by have := HB.out.size; have := hb1.size; omega) _
  · have HC := Lib.hid hck
    have HR := Lib.hid hr
    have hnj := hL.nj
    cases hj : inB j 0 ((L.js.length : Int) - 1) with
    | false =>
      have hv := Lib.hid (show placeErr L j = (0, 6) by unfold placeErr; rw [hck, if_neg (by simp), hj]; rfl)
      clear hck hr
      go_enter Try.func20, Try.ntmps20
      go_wp2_with (first | (go_at_call 80; refine (check_good HR.out HC.out H hL _ HA.out).mono ?_; rintro e w1 ⟨g, rfl, hb1, hP, hg⟩; have HP := Lib.hid hP; clear hP) | (go_at_call 82; refine (hasJoint_any hnj H ⟨g, 0, none⟩ _ _ _).mono ?_; rintro e w2 ⟨rfl, hb2⟩))
      go_ret2
      refine ⟨by rw [hv.out]; rfl, ?_⟩
      exact ((HB.out.trans (hb1.mono HB.out.size)).alloc (by have := HB.out.size; have := hb1.size; omega) _).trans (hb2.mono (by have := HB.out.size; have := hb1.size; simp at *; omega))
    | true =>
      obtain ⟨j1, j2⟩ := inB_iff.1 hj
      obtain ⟨k, rfl⟩ := Int.eq_ofNat_of_zero_le j1
      have hk : k < L.js.length := by omega
      have hv := Lib.hid (show placeErr L k = (placeL L.bs k, 0) by unfold placeErr; rw [hck, if_neg (by simp), hj]; rfl)
      clear hck hr
      go_enter Try.func20, Try.ntmps20
      go_wp2_with (first | (go_at_call 80; refine (check_good HR.out HC.out H hL _ HA.out).mono ?_; rintro e w1 ⟨g, rfl, hb1, hP, hg⟩; have HP := Lib.hid hP; clear hP) | (go_at_call 82; refine (hasJoint_any hnj H ⟨g, 0, none⟩ _ _ _).mono ?_; rintro e w2 ⟨rfl, hb2⟩; have X2 := Lib.hid ((Bk.new w1 119 #[.string L.name, .slice H.j.A L.js.length H.j.c, .slice H.b.A L.bs.length H.b.c, .slice H.s.A L.ss.length H.s.c, .slice (some ⟨g, 0, none⟩) L.js.length L.js.length]).call hb2); obtain ⟨c0, c1, c2, c3, c4⟩ := X2.out.five; have hp := ((HP.out.keep (fun p hp => World.cell?_alloc_lt _ _ p hp)).below (hb2.mono (by simp))).place0 hk))
      go_ret2
      refine ⟨by rw [hv.out]; rfl, ?_⟩
      exact ((HB.out.trans (hb1.mono HB.out.size)).alloc (by have := HB.out.size; have := hb1.size; omega) _).trans (hb2.mono (by have := HB.out.size; have := hb1.size; simp at *; omega))
end Go.Proofs.Ytmnlgeglmkdecaa
