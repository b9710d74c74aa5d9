/-
  The errors of poses: the walks of checkRide, checkPose and DeviationAt where there is one.
-/
import Derived.Test.YtmnlgeglmkdecaaDevAt
namespace Go.Proofs.Ytmnlgeglmkdecaa
open Go.RowKit

def rideErr (L : Ll) (v : Lv) : Int := if (ckLine L).2 ≠ 0 then (ckLine L).2 else vErr v
def poseErr (L : Ll) (v : Lv) (p : Int) : Int := if rideErr L v ≠ 0 then rideErr L v else if inB p 0 (placeL L.bs L.bs.length - v.len) && (p.tmod v.step == 0) then 0 else 6
theorem rideErr_cases {L : Ll} {v : Lv} {er : Int} (h : rideErr L v = er) (_he : er ≠ 0) : (∃ m1 m2, ckLine L = ((m1, m2), er)) ∨ (Right L ∧ ckLine L = ((0, 0), 0) ∧ vErr v = er) := by
  unfold rideErr at h
  split at h
  · exact .inl ⟨(ckLine L).1.1, (ckLine L).1.2, by rw [← h]⟩
  · rename_i h0
    have h0 : (ckLine L).2 = 0 := by omega
    exact .inr ⟨right_of h0, ck_right h0, h⟩
theorem rideErr_good {L : Ll} {v : Lv} (h : rideErr L v = 0) : Right L ∧ ckLine L = ((0, 0), 0) ∧ vErr v = 0 := by
  unfold rideErr at h
  split at h
  · omega
  · rename_i h0
    have h0 : (ckLine L).2 = 0 := by omega
    exact ⟨right_of h0, ck_right h0, h⟩
theorem poseErr_cases {L : Ll} {v : Lv} {p er : Int} (h : poseErr L v p = er) (_he : er ≠ 0) : rideErr L v = er ∨ (rideErr L v = 0 ∧ er = 6 ∧ (inB p 0 (placeL L.bs L.bs.length - v.len) = false ∨ (inB p 0 (placeL L.bs L.bs.length - v.len) = true ∧ p.tmod v.step ≠ 0))) := by
  unfold poseErr at h
  split at h
  · exact .inl h
  · rename_i h0
    have h0 : rideErr L v = 0 := by omega
    split at h
    · omega
    · rename_i h1
      refine .inr ⟨h0, h.symm, ?_⟩
      cases hi : inB p 0 (placeL L.bs L.bs.length - v.len) with
      | false => exact .inl rfl
      | true => rw [hi] at h1; exact .inr ⟨rfl, fun h2 => h1 (by rw [h2]; rfl)⟩
theorem poseErr_good {L : Ll} {v : Lv} {p : Int} (h : poseErr L v p = 0) : Right L ∧ ckLine L = ((0, 0), 0) ∧ vErr v = 0 ∧ inB p 0 (placeL L.bs L.bs.length - v.len) = true ∧ p.tmod v.step = 0 := by
  unfold poseErr at h
  split at h
  · omega
  · rename_i h0
    have h0 : rideErr L v = 0 := by omega
    obtain ⟨a, b, c⟩ := rideErr_good h0
    split at h
    · rename_i h1
      simp only [Bool.and_eq_true, beq_iff_eq] at h1
      exact ⟨a, b, c, h1.1, h1.2⟩
    · omega

set_option maxHeartbeats 2000000 in
set_option maxRecDepth 100000 in
theorem checkRide_err {L : Ll} {v : Lv} {er : Int} (h : rideErr L v = er) (he : er ≠ 0) (H : Hds) (hL : L.ok) (w : World) (hA : LnAt w w.heap.size L H) :
    Calls Try.prog 117 #[(.agg #[.string L.name, .slice H.j.A L.js.length H.j.c, .slice H.b.A L.bs.length H.b.c, .slice H.s.A L.ss.length H.s.c]), (.agg #[.int .i64 v.len, .int .i64 v.clear, .int .i64 v.step])] w fun e w' => e = .returned (.tuple #[.agg #[.string ⟨#[]⟩, .slice none 0 0, .slice none 0 0, .slice none 0 0, .slice none 0 0], .int .i64 er]) ∧ Below w.heap.size w w' := by
  have b0 := (((Below.refl w.heap.size w).alloc (Nat.le_refl _) (.cells #[.string L.name, .slice H.j.A L.js.length H.j.c, .slice H.b.A L.bs.length H.b.c, .slice H.s.A L.ss.length H.s.c] 26)).alloc (by simp) (.cells #[.int .i64 v.len, .int .i64 v.clear, .int .i64 v.step] 77)).alloc (by simp; omega) (.cells #[.string ⟨#[]⟩, .slice none 0 0, .slice none 0 0, .slice none 0 0, .slice none 0 0] 119)
  have R0 := Lib.hid (Bk.new2 w (.cells #[.string L.name, .slice H.j.A L.js.length H.j.c, .slice H.b.A L.bs.length H.b.c, .slice H.s.A L.ss.length H.s.c] 26) (.cells #[.int .i64 v.len, .int .i64 v.clear, .int .i64 v.step] 77) 119 #[.string ⟨#[]⟩, .slice none 0 0, .slice none 0 0, .slice none 0 0, .slice none 0 0])
  have V0 := Lib.hid ((Bk.new1 w (.cells #[.string L.name, .slice H.j.A L.js.length H.j.c, .slice H.b.A L.bs.length H.b.c, .slice H.s.A L.ss.length H.s.c] 26) 77 #[.int .i64 v.len, .int .i64 v.clear, .int .i64 v.step]).alloc (.cells #[.string ⟨#[]⟩, .slice none 0 0, .slice none 0 0, .slice none 0 0, .slice none 0 0] 119))
  have HB := Lib.hid b0
  have HA := Lib.hid ((hA.below b0).more b0.size)
  have ge : (er != 0) = true := by simp [he]
  have HE := Lib.hid he
  rcases rideErr_cases h he with ⟨m1, m2, hck⟩ | ⟨hr, hck, hv⟩
  · have HC := Lib.hid hck
    clear h he hck hA b0
    go_enter Try.func117, Try.ntmps117
    go_wp2_with fail
    refine (check_bad HC.out HE.out H hL _ HA.out).mono ?_
    rintro e w1 ⟨rfl, hb1⟩
    have R1 := Lib.hid ((R0.out.call hb1).alloc (.cells #[.string ⟨#[]⟩, .slice none 0 0, .slice none 0 0, .slice none 0 0, .slice none 0 0] 119))
    have B1 := Lib.hid (Below.step HB.out hb1)
    obtain ⟨d0, d1, d2, d3, d4⟩ := R1.out.five
    obtain ⟨f0, f1, f2, f3, f4⟩ := R1.out.free5
    clear hb1
    go_wp2_with fail
    refine bodyPost_ret (v := .tuple #[.agg #[.string ⟨#[]⟩, .slice none 0 0, .slice none 0 0, .slice none 0 0, .slice none 0 0], .int .i64 er]) (by simp [results, Try.results117, go_sem, d0, d1, d2, d3, d4]) rfl ⟨rfl, ?_⟩
    exact (B1.out.alloc B1.out.size _).setCell (by simp; omega) _ |>.setCell (by simp; omega) _ |>.setCell (by simp; omega) _ |>.setCell (by simp; omega) _ |>.setCell (by simp; omega) _
  · have HC := Lib.hid hck
    have HR := Lib.hid hr
    have HV := Lib.hid hv
    clear h he hck hr hv hA b0
    go_enter Try.func117, Try.ntmps117
    go_wp2_with fail
    refine (check_good HR.out HC.out H hL _ HA.out).mono ?_
    rintro e w1 ⟨g, rfl, hb1, _, _⟩
    have R1 := Lib.hid ((R0.out.call hb1).alloc (.cells #[.string L.name, .slice H.j.A L.js.length H.j.c, .slice H.b.A L.bs.length H.b.c, .slice H.s.A L.ss.length H.s.c, .slice (some ⟨g, 0, none⟩) L.js.length L.js.length] 119))
    have V1 := Lib.hid ((V0.out.call hb1).alloc (.cells #[.string L.name, .slice H.j.A L.js.length H.j.c, .slice H.b.A L.bs.length H.b.c, .slice H.s.A L.ss.length H.s.c, .slice (some ⟨g, 0, none⟩) L.js.length L.js.length] 119))
    have B1 := Lib.hid ((Below.step HB.out hb1).alloc (Below.step HB.out hb1).size (.cells #[.string L.name, .slice H.j.A L.js.length H.j.c, .slice H.b.A L.bs.length H.b.c, .slice H.s.A L.ss.length H.s.c, .slice (some ⟨g, 0, none⟩) L.js.length L.js.length] 119))
    obtain ⟨v0, v1, v2⟩ := V1.out.three
    clear hb1
    go_wp2_with fail
    refine (CheckVehicle_any v _).mono ?_
    rintro e w2 ⟨rfl, hb2⟩
    rw [HV.out]
    have R2 := Lib.hid (R1.out.call hb2)
    have B2 := Lib.hid (Below.step B1.out hb2)
    obtain ⟨d0, d1, d2, d3, d4⟩ := R2.out.five
    obtain ⟨f0, f1, f2, f3, f4⟩ := R2.out.free5
    clear hb2 v0 v1 v2
    go_wp2_with fail
    refine bodyPost_ret (v := .tuple #[.agg #[.string ⟨#[]⟩, .slice none 0 0, .slice none 0 0, .slice none 0 0, .slice none 0 0], .int .i64 er]) (by simp [results, Try.results117, go_sem, d0, d1, d2, d3, d4]) rfl ⟨rfl, ?_⟩
    exact B2.out.setCell (by simp; omega) _ |>.setCell (by simp; omega) _ |>.setCell (by simp; omega) _ |>.setCell (by simp; omega) _ |>.setCell (by simp; omega) _

/-- In checkPose: the vehicle, the result, the checked line in their boxes, the places in memory. -/
structure PF (w W : World) (L : Ll) (H : Hds) (v : Lv) (g c : Nat) : Prop where
  veh : Bk W (w.heap.size + 1) 77 #[.int .i64 v.len, .int .i64 v.clear, .int .i64 v.step]
  res : Bk W (w.heap.size + 2) 119 #[.string ⟨#[]⟩, .slice none 0 0, .slice none 0 0, .slice none 0 0, .slice none 0 0]
  ck : Bk W c 119 #[.string L.name, .slice H.j.A L.js.length H.j.c, .slice H.b.A L.bs.length H.b.c, .slice H.s.A L.ss.length H.s.c, .slice (some ⟨g, 0, none⟩) L.js.length L.js.length]
  bl : Below w.heap.size w W
  pl : Lies W W.heap.size (some ⟨g, 0, none⟩) (ic (placesL L))
section
variable {w W W' : World} {L : Ll} {H : Hds} {v : Lv} {g c : Nat}
theorem PF.from (hb : Below W.heap.size W W') (h : PF w W L H v g c) : PF w W' L H v g c := ⟨h.veh.call hb, h.res.call hb, h.ck.call hb, Below.step h.bl hb, Lies.call h.pl hb⟩
theorem PF.drew (h : PF w W L H v g c) : PF w W.drew L H v g c := ⟨h.veh, h.res, h.ck, h.bl.drew, h.pl.keep (fun _ _ => rfl)⟩
end

set_option maxHeartbeats 4000000 in
set_option maxRecDepth 100000 in
theorem checkPose_err {L : Ll} {v : Lv} {p er : Int} (h : poseErr L v p = er) (he : er ≠ 0) (H : Hds) (hL : L.ok) (w : World) (hA : LnAt w w.heap.size L H) :
    Calls Try.prog 111 #[(.agg #[.string L.name, .slice H.j.A L.js.length H.j.c, .slice H.b.A L.bs.length H.b.c, .slice H.s.A L.ss.length H.s.c]), (.agg #[.int .i64 v.len, .int .i64 v.clear, .int .i64 v.step]), .int .i64 p] w fun e w' => e = .returned (.tuple #[.agg #[.string ⟨#[]⟩, .slice none 0 0, .slice none 0 0, .slice none 0 0, .slice none 0 0], .int .i64 er]) ∧ Below w.heap.size w w' := by
  have b0 := (((Below.refl w.heap.size w).alloc (Nat.le_refl _) (.cells #[.string L.name, .slice H.j.A L.js.length H.j.c, .slice H.b.A L.bs.length H.b.c, .slice H.s.A L.ss.length H.s.c] 26)).alloc (by simp) (.cells #[.int .i64 v.len, .int .i64 v.clear, .int .i64 v.step] 77)).alloc (by simp; omega) (.cells #[.string ⟨#[]⟩, .slice none 0 0, .slice none 0 0, .slice none 0 0, .slice none 0 0] 119)
  have R0 := Lib.hid (Bk.new2 w (.cells #[.string L.name, .slice H.j.A L.js.length H.j.c, .slice H.b.A L.bs.length H.b.c, .slice H.s.A L.ss.length H.s.c] 26) (.cells #[.int .i64 v.len, .int .i64 v.clear, .int .i64 v.step] 77) 119 #[.string ⟨#[]⟩, .slice none 0 0, .slice none 0 0, .slice none 0 0, .slice none 0 0])
  have V0 := Lib.hid ((Bk.new1 w (.cells #[.string L.name, .slice H.j.A L.js.length H.j.c, .slice H.b.A L.bs.length H.b.c, .slice H.s.A L.ss.length H.s.c] 26) 77 #[.int .i64 v.len, .int .i64 v.clear, .int .i64 v.step]).alloc (.cells #[.string ⟨#[]⟩, .slice none 0 0, .slice none 0 0, .slice none 0 0, .slice none 0 0] 119))
  have HB := Lib.hid b0
  have HA := Lib.hid ((hA.below b0).more b0.size)
  have ge : (er != 0) = true := by simp [he]
  have HE := Lib.hid he
  rcases poseErr_cases h he with hride | ⟨hride, rfl, hbad⟩
  · have HC := Lib.hid hride
    clear h he hride hA b0
    go_enter Try.func111, Try.ntmps111
    go_wp2_with fail
    refine (checkRide_err HC.out HE.out H hL _ HA.out).mono ?_
    rintro e w1 ⟨rfl, hb1⟩
    have R1 := Lib.hid ((R0.out.call hb1).alloc (.cells #[.string ⟨#[]⟩, .slice none 0 0, .slice none 0 0, .slice none 0 0, .slice none 0 0] 119))
    have B1 := Lib.hid (Below.step HB.out hb1)
    obtain ⟨d0, d1, d2, d3, d4⟩ := R1.out.five
    obtain ⟨f0, f1, f2, f3, f4⟩ := R1.out.free5
    clear hb1
    go_wp2_with fail
    refine bodyPost_ret (v := .tuple #[.agg #[.string ⟨#[]⟩, .slice none 0 0, .slice none 0 0, .slice none 0 0, .slice none 0 0], .int .i64 er]) (by simp [results, Try.results111, go_sem, d0, d1, d2, d3, d4]) rfl ⟨rfl, ?_⟩
    exact (B1.out.alloc B1.out.size _).setCell (by simp; omega) _ |>.setCell (by simp; omega) _ |>.setCell (by simp; omega) _ |>.setCell (by simp; omega) _ |>.setCell (by simp; omega) _
  · obtain ⟨hr, hck, hv⟩ := rideErr_good hride
    have HC := Lib.hid hck
    have HR := Lib.hid hr
    have HV := Lib.hid hv
    have HJ := Lib.hid hr.jb
    have hnj := hL.nj
    have h40 := hr.most
    obtain ⟨s1, s2⟩ := placeL_bound L.bs hr.b L.bs.length (Nat.le_refl _)
    obtain ⟨⟨l1, l2⟩, _, t1, t2⟩ := vErr_in hv
    obtain ⟨T, hT⟩ : ∃ T, placeL L.bs L.bs.length = T := ⟨_, rfl⟩
    rw [hT] at hbad s1 s2
    have HT := Lib.hid hT
    have u1 := IntWalk.i64_in (T - v.len) (by omega)
    clear h he hride hck hr hv hA b0 hT ge HE
    rcases hbad with hi | ⟨hi, hm⟩
    · have HI := Lib.hid hi
      clear hi
      go_enter Try.func111, Try.ntmps111
      go_wp2_with fail
      refine (checkRide_good HR.out HC.out H hL v HV.out _ HA.out).mono ?_
      rintro e w1 ⟨g, rfl, hb1, hP, _⟩
      have P1 : Hid (PF w (w1.alloc (.cells #[.string L.name, .slice H.j.A L.js.length H.j.c, .slice H.b.A L.bs.length H.b.c, .slice H.s.A L.ss.length H.s.c, .slice (some ⟨g, 0, none⟩) L.js.length L.js.length] 119)) L H v g w1.heap.size) := Lib.hid ⟨(V0.out.call hb1).alloc _, (R0.out.call hb1).alloc _, Bk.new w1 _ _, (Below.step HB.out hb1).alloc (Below.step HB.out hb1).size _, (hP.keep (fun p hp => World.cell?_alloc_lt w1 (.cells #[.string L.name, .slice H.j.A L.js.length H.j.c, .slice H.b.A L.bs.length H.b.c, .slice H.s.A L.ss.length H.s.c, .slice (some ⟨g, 0, none⟩) L.js.length L.js.length] 119) p hp)).more (by simp)⟩
      clear hb1 hP R0 V0 HB HA
      go_wp2_with fail
      generalize hW : w1.alloc (.cells #[.string L.name, .slice H.j.A L.js.length H.j.c, .slice H.b.A L.bs.length H.b.c, .slice H.s.A L.ss.length H.s.c, .slice (some ⟨g, 0, none⟩) L.js.length L.js.length] 119) = W1 at *
      clear hW
      generalize w1.heap.size = c at *
      obtain ⟨q0, q1, q2⟩ := P1.out.veh.three
      obtain ⟨c0, c1, c2, c3, c4⟩ := P1.out.ck.five
      (first | go_region_with (first | (go_at_call 81; refine (length_any HJ.out hnj H ⟨g, 0, none⟩ _ _ (PF.pl (w := w) (v := v) (c := c) (by first | exact P1.out.drew | exact P1.out))).mono ?_; rintro e w2 ⟨rfl, hb2⟩; rw [HT.out]; have P2 : Hid (PF w w2 L H v g c) := Lib.hid (PF.from hb2 (by first | exact P1.out.drew | exact P1.out)); obtain ⟨q0, q1, q2⟩ := P2.out.veh.three; obtain ⟨d0, d1, d2, d3, d4⟩ := P2.out.res.five; obtain ⟨f0, f1, f2, f3, f4⟩ := P2.out.res.free5) | (go_at_call 110; refine (within_any _ _ _ _).mono ?_; rintro e w' ⟨rfl, rfl⟩; rw [HI.out])) | fail "region")
      all_goals
        go_wp2_with fail
        refine bodyPost_ret (v := .tuple #[.agg #[.string ⟨#[]⟩, .slice none 0 0, .slice none 0 0, .slice none 0 0, .slice none 0 0], .int .i64 6]) (by simp [results, Try.results111, go_sem, d0, d1, d2, d3, d4]) rfl ⟨rfl, ?_⟩
        have b5 := P2.out.bl.setCell (p := ⟨w.heap.size + 1 + 1, 0, none⟩) (by simp; omega) (.string ⟨#[]⟩) |>.setCell (p := ⟨w.heap.size + 1 + 1, 1, none⟩) (by simp; omega) (.slice none 0 0) |>.setCell (p := ⟨w.heap.size + 1 + 1, 2, none⟩) (by simp; omega) (.slice none 0 0) |>.setCell (p := ⟨w.heap.size + 1 + 1, 3, none⟩) (by simp; omega) (.slice none 0 0) |>.setCell (p := ⟨w.heap.size + 1 + 1, 4, none⟩) (by simp; omega) (.slice none 0 0)
        first | exact b5 | exact b5.drew | exact below_drewN b5 _
    · have HI := Lib.hid hi
      obtain ⟨p0, p1⟩ := inB_iff.1 hi
      have hm1 : p.tmod v.step = p % v.step := Int.tmod_eq_emod_of_nonneg p0
      have gm2 : (p.tmod v.step != 0) = true := by simp [hm]
      have gm : (p % v.step != 0) = true := by rw [← hm1]; exact gm2
      have gz : (v.step == 0) = false := by simp; omega
      have hb1 := Int.emod_nonneg p (show v.step ≠ 0 by omega)
      have hb2 := Int.emod_lt_of_pos p (show 0 < v.step by omega)
      have ur : IntKind.i64.wrap (p.tmod v.step) = p.tmod v.step := IntWalk.i64_in _ (by omega)
      have ur2 : IntKind.i64.wrap (p % v.step) = p % v.step := IntWalk.i64_in _ (by omega)
      clear hi hm hm1 hb1 hb2
      go_enter Try.func111, Try.ntmps111
      go_wp2_with fail
      refine (checkRide_good HR.out HC.out H hL v HV.out _ HA.out).mono ?_
      rintro e w1 ⟨g, rfl, hb1, hP, _⟩
      have P1 : Hid (PF w (w1.alloc (.cells #[.string L.name, .slice H.j.A L.js.length H.j.c, .slice H.b.A L.bs.length H.b.c, .slice H.s.A L.ss.length H.s.c, .slice (some ⟨g, 0, none⟩) L.js.length L.js.length] 119)) L H v g w1.heap.size) := Lib.hid ⟨(V0.out.call hb1).alloc _, (R0.out.call hb1).alloc _, Bk.new w1 _ _, (Below.step HB.out hb1).alloc (Below.step HB.out hb1).size _, (hP.keep (fun p hp => World.cell?_alloc_lt w1 (.cells #[.string L.name, .slice H.j.A L.js.length H.j.c, .slice H.b.A L.bs.length H.b.c, .slice H.s.A L.ss.length H.s.c, .slice (some ⟨g, 0, none⟩) L.js.length L.js.length] 119) p hp)).more (by simp)⟩
      clear hb1 hP R0 V0 HB HA
      go_wp2_with fail
      generalize hW : w1.alloc (.cells #[.string L.name, .slice H.j.A L.js.length H.j.c, .slice H.b.A L.bs.length H.b.c, .slice H.s.A L.ss.length H.s.c, .slice (some ⟨g, 0, none⟩) L.js.length L.js.length] 119) = W1 at *
      clear hW
      generalize w1.heap.size = c at *
      obtain ⟨q0, q1, q2⟩ := P1.out.veh.three
      obtain ⟨c0, c1, c2, c3, c4⟩ := P1.out.ck.five
      (first | go_region_with (first | (go_at_call 81; refine (length_any HJ.out hnj H ⟨g, 0, none⟩ _ _ (PF.pl (w := w) (v := v) (c := c) (by first | exact P1.out.drew | exact P1.out))).mono ?_; rintro e w2 ⟨rfl, hb2⟩; rw [HT.out]; have P2 : Hid (PF w w2 L H v g c) := Lib.hid (PF.from hb2 (by first | exact P1.out.drew | exact P1.out)); obtain ⟨q0, q1, q2⟩ := P2.out.veh.three; obtain ⟨d0, d1, d2, d3, d4⟩ := P2.out.res.five; obtain ⟨f0, f1, f2, f3, f4⟩ := P2.out.res.free5) | (go_at_call 110; refine (within_any _ _ _ _).mono ?_; rintro e w' ⟨rfl, rfl⟩; rw [HI.out])) | fail "region")
      all_goals
        go_wp2_with fail
        refine bodyPost_ret (v := .tuple #[.agg #[.string ⟨#[]⟩, .slice none 0 0, .slice none 0 0, .slice none 0 0, .slice none 0 0], .int .i64 6]) (by simp [results, Try.results111, go_sem, d0, d1, d2, d3, d4]) rfl ⟨rfl, ?_⟩
        have b5 := P2.out.bl.setCell (p := ⟨w.heap.size + 1 + 1, 0, none⟩) (by simp; omega) (.string ⟨#[]⟩) |>.setCell (p := ⟨w.heap.size + 1 + 1, 1, none⟩) (by simp; omega) (.slice none 0 0) |>.setCell (p := ⟨w.heap.size + 1 + 1, 2, none⟩) (by simp; omega) (.slice none 0 0) |>.setCell (p := ⟨w.heap.size + 1 + 1, 3, none⟩) (by simp; omega) (.slice none 0 0) |>.setCell (p := ⟨w.heap.size + 1 + 1, 4, none⟩) (by simp; omega) (.slice none 0 0)
        first | exact b5 | exact b5.drew | exact below_drewN b5 _

set_option maxHeartbeats 2000000 in
set_option maxRecDepth 100000 in
theorem DeviationAt_err {L : Ll} {v : Lv} {p er : Int} (h : poseErr L v p = er) (he : er ≠ 0) (j : Int) (H : Hds) (hL : L.ok) (w : World) (hA : LnAt w w.heap.size L H) :
    Calls Try.prog 54 #[(.agg #[.string L.name, .slice H.j.A L.js.length H.j.c, .slice H.b.A L.bs.length H.b.c, .slice H.s.A L.ss.length H.s.c]), (.agg #[.int .i64 v.len, .int .i64 v.clear, .int .i64 v.step]), .agg #[.int .i64 p, .int .i64 j]] w fun e w' => e = .returned (.tuple #[.agg #[.int .i64 0, .int .i64 0], .int .i64 er]) ∧ Below w.heap.size w w' := by
  have b0 := (((((Below.refl w.heap.size w).alloc (Nat.le_refl _) (.cells #[.string L.name, .slice H.j.A L.js.length H.j.c, .slice H.b.A L.bs.length H.b.c, .slice H.s.A L.ss.length H.s.c] 26)).alloc (by simp) (.cells #[.int .i64 v.len, .int .i64 v.clear, .int .i64 v.step] 77)).alloc (by simp; omega) (.cells #[.int .i64 p, .int .i64 j] 78)).alloc (by simp; omega) (.cells #[.int .i64 0, .int .i64 0] 54)).alloc (by simp; omega) (.cells #[.int .i64 0] 31)
  have HB := Lib.hid b0
  have R0 := Lib.hid ((Bk.new3 w (.cells #[.string L.name, .slice H.j.A L.js.length H.j.c, .slice H.b.A L.bs.length H.b.c, .slice H.s.A L.ss.length H.s.c] 26) (.cells #[.int .i64 v.len, .int .i64 v.clear, .int .i64 v.step] 77) (.cells #[.int .i64 p, .int .i64 j] 78) 54 #[.int .i64 0, .int .i64 0]).alloc (.cells #[.int .i64 0] 31))
  have E0 := Lib.hid (Bk.new4 w (.cells #[.string L.name, .slice H.j.A L.js.length H.j.c, .slice H.b.A L.bs.length H.b.c, .slice H.s.A L.ss.length H.s.c] 26) (.cells #[.int .i64 v.len, .int .i64 v.clear, .int .i64 v.step] 77) (.cells #[.int .i64 p, .int .i64 j] 78) (.cells #[.int .i64 0, .int .i64 0] 54) 31 #[.int .i64 0])
  have HA := Lib.hid ((hA.below b0).more b0.size)
  have ge : (er != 0) = true := by simp [he]
  have HE := Lib.hid he
  have HP := Lib.hid h
  clear h he hA b0
  go_enter Try.func54, Try.ntmps54
  go_wp2_with fail
  refine (checkPose_err HP.out HE.out H hL _ HA.out).mono ?_
  rintro e w1 ⟨rfl, hb1⟩
  have R1 := Lib.hid ((R0.out.call hb1).alloc (.cells #[.string ⟨#[]⟩, .slice none 0 0, .slice none 0 0, .slice none 0 0, .slice none 0 0] 119))
  have E1 := Lib.hid ((E0.out.call hb1).alloc (.cells #[.string ⟨#[]⟩, .slice none 0 0, .slice none 0 0, .slice none 0 0, .slice none 0 0] 119))
  have B1 := Lib.hid (Below.step HB.out hb1)
  obtain ⟨d0, d1, f0, f1⟩ := R1.out.two
  obtain ⟨e0, e1⟩ := E1.out.one
  clear hb1
  go_wp2_with fail
  refine bodyPost_ret (v := .tuple #[.agg #[.int .i64 0, .int .i64 0], .int .i64 er]) (by simp [results, Try.results54, go_sem, d0, d1, e0]) rfl ⟨rfl, ?_⟩
  exact (B1.out.alloc B1.out.size _).setCell (by simp; omega) _ |>.setCell (by simp; omega) _ |>.setCell (by simp; omega) _
end Go.Proofs.Ytmnlgeglmkdecaa
