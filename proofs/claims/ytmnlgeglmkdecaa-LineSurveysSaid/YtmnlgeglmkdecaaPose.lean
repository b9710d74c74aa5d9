/-
  The walk of checkPose at a pose.
-/
import Derived.Test.YtmnlgeglmkdecaaRide
namespace Go.Proofs.Ytmnlgeglmkdecaa
open Go.RowKit

set_option maxHeartbeats 2000000 in
set_option maxRecDepth 100000 in
theorem checkPose_good {L : Ll} (hr : Right L) (hck : ckLine L = ((0, 0), 0)) (H : Hds) (hL : L.ok) (v : Lv) (hv : vErr v = 0) (p : Int) (hp : inB p 0 (placeL L.bs L.bs.length - v.len) = true) (hm : p.tmod v.step = 0) (w : World) (hA : LnAt w w.heap.size L H) :
    Calls Try.prog 111 #[(.agg #[.string L.name, .slice H.j.A L.js.length H.j.c, .slice H.b.A L.bs.length H.b.c, .slice H.s.A L.ss.length H.s.c]), (.agg #[.int .i64 v.len, .int .i64 v.clear, .int .i64 v.step]), .int .i64 p] w fun e w' => ∃ g, e = .returned (.tuple #[.agg #[.string L.name, .slice H.j.A L.js.length H.j.c, .slice H.b.A L.bs.length H.b.c, .slice H.s.A L.ss.length H.s.c, .slice (some ⟨g, 0, none⟩) L.js.length L.js.length], .int .i64 0]) ∧ Below w.heap.size w w' ∧
      Lies w' w'.heap.size (some ⟨g, 0, none⟩) (ic (placesL L)) ∧ w.heap.size ≤ g := by
  have b0 := (((Below.refl w.heap.size w).alloc (Nat.le_refl _) (.cells #[.string L.name, .slice H.j.A L.js.length H.j.c, .slice H.b.A L.bs.length H.b.c, .slice H.s.A L.ss.length H.s.c] 26)).alloc (by simp) (.cells #[.int .i64 v.len, .int .i64 v.clear, .int .i64 v.step] 77)).alloc (by simp; omega) (.cells #[.string ⟨#[]⟩, .slice none 0 0, .slice none 0 0, .slice none 0 0, .slice none 0 0] 119)
  have R0 := Lib.hid (Bk.new2 w (.cells #[.string L.name, .slice H.j.A L.js.length H.j.c, .slice H.b.A L.bs.length H.b.c, .slice H.s.A L.ss.length H.s.c] 26) (.cells #[.int .i64 v.len, .int .i64 v.clear, .int .i64 v.step] 77) 119 #[.string ⟨#[]⟩, .slice none 0 0, .slice none 0 0, .slice none 0 0, .slice none 0 0])
  have V0 := Lib.hid ((Bk.new1 w (.cells #[.string L.name, .slice H.j.A L.js.length H.j.c, .slice H.b.A L.bs.length H.b.c, .slice H.s.A L.ss.length H.s.c] 26) 77 #[.int .i64 v.len, .int .i64 v.clear, .int .i64 v.step]).alloc (.cells #[.string ⟨#[]⟩, .slice none 0 0, .slice none 0 0, .slice none 0 0, .slice none 0 0] 119))
  have HB := Lib.hid b0
  have HA := Lib.hid ((hA.below b0).more b0.size)
  have HC := Lib.hid hck
  have HR := Lib.hid hr
  have h40 := hr.most
  have hnj := hL.nj
  have HJ := Lib.hid hr.jb
  have HV := Lib.hid hv
  obtain ⟨s1, s2⟩ := placeL_bound L.bs hr.b L.bs.length (Nat.le_refl _)
  have hvv : (1000 ≤ v.len ∧ v.len ≤ 30000) ∧ (100 ≤ v.step ∧ v.step ≤ 30000) := by
    unfold vErr at hv
    split at hv
    · rename_i h; simp only [Bool.and_eq_true, inB_iff] at h; exact ⟨h.1.1, h.2⟩
    · simp at hv
  obtain ⟨⟨l1, l2⟩, t1, t2⟩ := hvv
  obtain ⟨p1, p2⟩ := inB_iff.1 hp
  obtain ⟨T, hT⟩ : ∃ T, placeL L.bs L.bs.length = T := ⟨_, rfl⟩
  rw [hT] at hp s1 s2 p2
  have HT := Lib.hid hT
  have hm1 : p.tmod v.step = p % v.step := Int.tmod_eq_emod_of_nonneg p1
  have gm : (p % v.step != 0) = false := by rw [← hm1, hm]; rfl
  have gm2 : (p.tmod v.step != 0) = false := by rw [hm]; rfl
  have gz : (v.step == 0) = false := by simp; omega
  have HM := Lib.hid hm
  clear b0 hA hck hr hv hT hm hm1
  go_enter Try.func111, Try.ntmps111
  go_wp2_with (go_at_call 117; refine (checkRide_good HR.out HC.out H hL v HV.out _ HA.out).mono ?_; rintro e w1 ⟨g, rfl, hb1, hP, hg⟩; have HP := Lib.hid hP; clear hP)
  have R1 := Lib.hid ((R0.out.call hb1).alloc (.cells #[.string L.name, .slice H.j.A L.js.length H.j.c, .slice H.b.A L.bs.length H.b.c, .slice H.s.A L.ss.length H.s.c, .slice (some ⟨g, 0, none⟩) L.js.length L.js.length] 119))
  have V1 := Lib.hid ((V0.out.call hb1).alloc (.cells #[.string L.name, .slice H.j.A L.js.length H.j.c, .slice H.b.A L.bs.length H.b.c, .slice H.s.A L.ss.length H.s.c, .slice (some ⟨g, 0, none⟩) L.js.length L.js.length] 119))
  have C1 := Lib.hid (Bk.new w1 119 #[.string L.name, .slice H.j.A L.js.length H.j.c, .slice H.b.A L.bs.length H.b.c, .slice H.s.A L.ss.length H.s.c, .slice (some ⟨g, 0, none⟩) L.js.length L.js.length])
  have b1 := Lib.hid ((Below.step HB.out hb1).alloc (Below.step HB.out hb1).size (.cells #[.string L.name, .slice H.j.A L.js.length H.j.c, .slice H.b.A L.bs.length H.b.c, .slice H.s.A L.ss.length H.s.c, .slice (some ⟨g, 0, none⟩) L.js.length L.js.length] 119))
  have hp2 := Lib.hid ((HP.out.keep (fun p hp => World.cell?_alloc_lt w1 (.cells #[.string L.name, .slice H.j.A L.js.length H.j.c, .slice H.b.A L.bs.length H.b.c, .slice H.s.A L.ss.length H.s.c, .slice (some ⟨g, 0, none⟩) L.js.length L.js.length] 119) p hp)).more (show w1.heap.size ≤ (w1.alloc (.cells #[.string L.name, .slice H.j.A L.js.length H.j.c, .slice H.b.A L.bs.length H.b.c, .slice H.s.A L.ss.length H.s.c, .slice (some ⟨g, 0, none⟩) L.js.length L.js.length] 119)).heap.size by simp))
  obtain ⟨W0, hW0⟩ : ∃ W0, w1.alloc (.cells #[.string L.name, .slice H.j.A L.js.length H.j.c, .slice H.b.A L.bs.length H.b.c, .slice H.s.A L.ss.length H.s.c, .slice (some ⟨g, 0, none⟩) L.js.length L.js.length] 119) = W0 := ⟨_, rfl⟩
  rw [hW0] at R1 V1 C1 b1 hp2
  simp only [hW0]
  have zr := R1.out
  have zv := V1.out
  have zc := C1.out
  have l0 := hp2.out
  have BW := b1.out
  have BWd := BW.drew
  clear hW0 R1 V1 C1 b1 hp2 HP hb1
  obtain ⟨q0, q1, q2⟩ := zv.three
  obtain ⟨c0, c1, c2, c3, c4⟩ := zc.five
  have v1 := IntWalk.i64_in (T - v.len) (by omega)
  have wr : IntKind.i64.wrap (p.tmod v.step) = 0 := by rw [HM.out]; decide
  go_region_with (first | (go_at_call 81; refine (length_any HJ.out hnj H ⟨g, 0, none⟩ _ _ (by assumption)).mono ?_; rintro e w2 ⟨rfl, hb2⟩; rw [HT.out]; have l2 := Lies.call (by assumption) hb2; have xv := Bk.call (cs := #[.int .i64 v.len, .int .i64 v.clear, .int .i64 v.step]) (by assumption) hb2; have xc := Bk.call (g := w1.heap.size) (cs := #[.string L.name, .slice H.j.A L.js.length H.j.c, .slice H.b.A L.bs.length H.b.c, .slice H.s.A L.ss.length H.s.c, .slice (some ⟨g, 0, none⟩) L.js.length L.js.length]) (by assumption) hb2; have xr := Bk.call (cs := #[.string ⟨#[]⟩, .slice none 0 0, .slice none 0 0, .slice none 0 0, .slice none 0 0]) (by assumption) hb2; have bw := Below.step (w := w) (by assumption) hb2; obtain ⟨q0, q1, q2⟩ := xv.three; obtain ⟨c0, c1, c2, c3, c4⟩ := xc.five; obtain ⟨d0, d1, d2, d3, d4⟩ := xr.five; obtain ⟨f0, f1, f2, f3, f4⟩ := xr.free5) | (go_at_call 110; refine (within_any _ _ _ _).mono ?_; rintro e w' ⟨rfl, rfl⟩))
  all_goals
    clear v1 wr
    go_wp2_with fail
    refine bodyPost_ret (v := .tuple #[.agg #[.string L.name, .slice H.j.A L.js.length H.j.c, .slice H.b.A L.bs.length H.b.c, .slice H.s.A L.ss.length H.s.c, .slice (some ⟨g, 0, none⟩) L.js.length L.js.length], .int .i64 0]) (by simp [results, Try.results111, go_sem, d0, d1, d2, d3, d4]) rfl ⟨g, rfl, ?_, ?_, by simp at hg; omega⟩
    · have b5 := bw.setCell (p := ⟨w.heap.size + 1 + 1, 0, none⟩) (by simp; omega) (.string L.name) |>.setCell (p := ⟨w.heap.size + 1 + 1, 1, none⟩) (by simp; omega) (.slice H.j.A L.js.length H.j.c) |>.setCell (p := ⟨w.heap.size + 1 + 1, 2, none⟩) (by simp; omega) (.slice H.b.A L.bs.length H.b.c) |>.setCell (p := ⟨w.heap.size + 1 + 1, 3, none⟩) (by simp; omega) (.slice H.s.A L.ss.length H.s.c) |>.setCell (p := ⟨w.heap.size + 1 + 1, 4, none⟩) (by simp; omega) (.slice (some ⟨g, 0, none⟩) L.js.length L.js.length)
      first | exact b5 | exact b5.drew | exact below_drewN b5 _
    · have hg' : w.heap.size + 3 ≤ g := by simpa using hg
      exact lies_far5 (B := w.heap.size + 1) (by omega) l2
end Go.Proofs.Ytmnlgeglmkdecaa
