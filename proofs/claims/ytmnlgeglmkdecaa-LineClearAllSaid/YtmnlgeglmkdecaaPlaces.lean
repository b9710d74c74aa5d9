/-
  The walks of places: the beam at a place, and how far across and up it is; the program's.
-/
import Derived.Test.YtmnlgeglmkdecaaDevB
import Derived.Test.YtmnlgeglmkdecaaGcd
namespace Go.Proofs.Ytmnlgeglmkdecaa
open Go.RowKit

/-- The error of a place on a line. -/
def plErr (L : Ll) (p : Int) : Int := if (ckLine L).2 ≠ 0 then (ckLine L).2 else if inB p 0 (placeL L.bs L.bs.length) then 0 else 2
theorem plErr_cases {L : Ll} {p er : Int} (h : plErr L p = er) (he : er ≠ 0) : (∃ m1 m2, ckLine L = ((m1, m2), er)) ∨ (Right L ∧ ckLine L = ((0, 0), 0) ∧ inB p 0 (placeL L.bs L.bs.length) = false ∧ er = 2) := by
  unfold plErr at h
  split at h
  · rename_i h0
    exact .inl ⟨(ckLine L).1.1, (ckLine L).1.2, by rw [← h]⟩
  · rename_i h0
    have h0 : (ckLine L).2 = 0 := by omega
    split at h
    · omega
    · rename_i h1
      exact .inr ⟨right_of h0, ck_right h0, by simpa using h1, h.symm⟩
theorem plErr_good {L : Ll} {p : Int} (h : plErr L p = 0) : Right L ∧ ckLine L = ((0, 0), 0) ∧ 0 ≤ p ∧ p ≤ placeL L.bs L.bs.length := by
  unfold plErr at h
  split at h
  · omega
  · rename_i h0
    have h0 : (ckLine L).2 = 0 := by omega
    split at h
    · rename_i h1
      exact ⟨right_of h0, ck_right h0, (inB_iff.1 h1).1, (inB_iff.1 h1).2⟩
    · omega

set_option maxHeartbeats 2000000 in
set_option maxRecDepth 100000 in
theorem checkPlace_err {L : Ll} {p er : Int} (h : plErr L p = er) (he : er ≠ 0) (H : Hds) (hL : L.ok) (w : World) (hA : LnAt w w.heap.size L H) :
    Calls Try.prog 86 #[(.agg #[.string L.name, .slice H.j.A L.js.length H.j.c, .slice H.b.A L.bs.length H.b.c, .slice H.s.A L.ss.length H.s.c]), .int .i64 p] w fun e w' => e = .returned (.tuple #[.agg #[.string ⟨#[]⟩, .slice none 0 0, .slice none 0 0, .slice none 0 0, .slice none 0 0], .int .i64 er]) ∧ Below w.heap.size w w' := by
  have b0 := ((Below.refl w.heap.size w).alloc (Nat.le_refl _) (.cells #[.string L.name, .slice H.j.A L.js.length H.j.c, .slice H.b.A L.bs.length H.b.c, .slice H.s.A L.ss.length H.s.c] 26)).alloc (by simp) (.cells #[.string ⟨#[]⟩, .slice none 0 0, .slice none 0 0, .slice none 0 0, .slice none 0 0] 119)
  have R0 := Lib.hid (Bk.new1 w (.cells #[.string L.name, .slice H.j.A L.js.length H.j.c, .slice H.b.A L.bs.length H.b.c, .slice H.s.A L.ss.length H.s.c] 26) 119 #[.string ⟨#[]⟩, .slice none 0 0, .slice none 0 0, .slice none 0 0, .slice none 0 0])
  have HB := Lib.hid b0
  have HA := Lib.hid ((hA.below b0).more b0.size)
  have hnj := hL.nj
  clear hA b0
  rcases plErr_cases h he with ⟨m1, m2, hck⟩ | ⟨hr, hck, hi, h2⟩
  · have ge : (er != 0) = true := by simp [he]
    have HC := Lib.hid hck
    have HE := Lib.hid he
    clear h he hck
    go_enter Try.func86, Try.ntmps86
    go_wp2_with (go_at_call 80; refine (check_bad HC.out HE.out H hL _ HA.out).mono ?_; rintro e w1 ⟨rfl, hb1⟩; have R1 := Lib.hid ((R0.out.call hb1).alloc (.cells #[.string ⟨#[]⟩, .slice none 0 0, .slice none 0 0, .slice none 0 0, .slice none 0 0] 119)); obtain ⟨d0, d1, d2, d3, d4⟩ := R1.out.five; obtain ⟨f0, f1, f2, f3, f4⟩ := R1.out.free5)
    refine bodyPost_ret (v := .tuple #[.agg #[.string ⟨#[]⟩, .slice none 0 0, .slice none 0 0, .slice none 0 0, .slice none 0 0], .int .i64 er]) (by simp [results, Try.results86, go_sem, d0, d1, d2, d3, d4]) rfl ⟨rfl, ?_⟩
    have b1 := (Below.step HB.out hb1).alloc (Below.step HB.out hb1).size (.cells #[.string ⟨#[]⟩, .slice none 0 0, .slice none 0 0, .slice none 0 0, .slice none 0 0] 119)
    exact b1.setCell (by simp) _ |>.setCell (by simp) _ |>.setCell (by simp) _ |>.setCell (by simp) _ |>.setCell (by simp) _
  · subst h2
    have HC := Lib.hid hck
    have HR := Lib.hid hr
    have HJ := Lib.hid hr.jb
    obtain ⟨T, hT⟩ : ∃ T, placeL L.bs L.bs.length = T := ⟨_, rfl⟩
    rw [hT] at hi
    have HT := Lib.hid hT
    have h0 : p < 0 ∨ T < p := by
      unfold inB at hi
      simp at hi
      omega
    clear hck hr he h hT
    rcases h0 with h0 | h0
    · go_enter Try.func86, Try.ntmps86
      go_wp2_with (go_at_call 80; refine (check_good HR.out HC.out H hL _ HA.out).mono ?_; rintro e w1 ⟨g, rfl, hb1, hP, hg⟩; have HP := Lib.hid hP; clear hP; have R1 := Lib.hid ((R0.out.call hb1).alloc (.cells #[.string L.name, .slice H.j.A L.js.length H.j.c, .slice H.b.A L.bs.length H.b.c, .slice H.s.A L.ss.length H.s.c, .slice (some ⟨g, 0, none⟩) L.js.length L.js.length] 119)); obtain ⟨d0, d1, d2, d3, d4⟩ := R1.out.five; obtain ⟨f0, f1, f2, f3, f4⟩ := R1.out.free5)
      refine bodyPost_ret (v := .tuple #[.agg #[.string ⟨#[]⟩, .slice none 0 0, .slice none 0 0, .slice none 0 0, .slice none 0 0], .int .i64 2]) (by simp [results, Try.results86, go_sem, d0, d1, d2, d3, d4]) rfl ⟨rfl, ?_⟩
      have b1 := (Below.step HB.out hb1).alloc (Below.step HB.out hb1).size (.cells #[.string L.name, .slice H.j.A L.js.length H.j.c, .slice H.b.A L.bs.length H.b.c, .slice H.s.A L.ss.length H.s.c, .slice (some ⟨g, 0, none⟩) L.js.length L.js.length] 119)
      exact b1.setCell (by simp) _ |>.setCell (by simp) _ |>.setCell (by simp) _ |>.setCell (by simp) _ |>.setCell (by simp) _
    · by_cases h1 : p < 0
      · go_enter Try.func86, Try.ntmps86
        go_wp2_with (go_at_call 80; refine (check_good HR.out HC.out H hL _ HA.out).mono ?_; rintro e w1 ⟨g, rfl, hb1, hP, hg⟩; have HP := Lib.hid hP; clear hP; have R1 := Lib.hid ((R0.out.call hb1).alloc (.cells #[.string L.name, .slice H.j.A L.js.length H.j.c, .slice H.b.A L.bs.length H.b.c, .slice H.s.A L.ss.length H.s.c, .slice (some ⟨g, 0, none⟩) L.js.length L.js.length] 119)); obtain ⟨d0, d1, d2, d3, d4⟩ := R1.out.five; obtain ⟨f0, f1, f2, f3, f4⟩ := R1.out.free5)
        refine bodyPost_ret (v := .tuple #[.agg #[.string ⟨#[]⟩, .slice none 0 0, .slice none 0 0, .slice none 0 0, .slice none 0 0], .int .i64 2]) (by simp [results, Try.results86, go_sem, d0, d1, d2, d3, d4]) rfl ⟨rfl, ?_⟩
        have b1 := (Below.step HB.out hb1).alloc (Below.step HB.out hb1).size (.cells #[.string L.name, .slice H.j.A L.js.length H.j.c, .slice H.b.A L.bs.length H.b.c, .slice H.s.A L.ss.length H.s.c, .slice (some ⟨g, 0, none⟩) L.js.length L.js.length] 119)
        exact b1.setCell (by simp) _ |>.setCell (by simp) _ |>.setCell (by simp) _ |>.setCell (by simp) _ |>.setCell (by simp) _
      · go_enter Try.func86, Try.ntmps86
        go_wp2_with (first | (go_at_call 80; refine (check_good HR.out HC.out H hL _ HA.out).mono ?_; rintro e w1 ⟨g, rfl, hb1, hP, hg⟩; have HP := Lib.hid hP; clear hP; have R1 := Lib.hid ((R0.out.call hb1).alloc (.cells #[.string L.name, .slice H.j.A L.js.length H.j.c, .slice H.b.A L.bs.length H.b.c, .slice H.s.A L.ss.length H.s.c, .slice (some ⟨g, 0, none⟩) L.js.length L.js.length] 119)); have B1 := Lib.hid ((Below.step HB.out hb1).alloc (Below.step HB.out hb1).size (.cells #[.string L.name, .slice H.j.A L.js.length H.j.c, .slice H.b.A L.bs.length H.b.c, .slice H.s.A L.ss.length H.s.c, .slice (some ⟨g, 0, none⟩) L.js.length L.js.length] 119)); have hp2 := Lib.hid ((HP.out.keep (fun p hp => World.cell?_alloc_lt w1 (.cells #[.string L.name, .slice H.j.A L.js.length H.j.c, .slice H.b.A L.bs.length H.b.c, .slice H.s.A L.ss.length H.s.c, .slice (some ⟨g, 0, none⟩) L.js.length L.js.length] 119) p hp)).more (show w1.heap.size ≤ (w1.alloc (.cells #[.string L.name, .slice H.j.A L.js.length H.j.c, .slice H.b.A L.bs.length H.b.c, .slice H.s.A L.ss.length H.s.c, .slice (some ⟨g, 0, none⟩) L.js.length L.js.length] 119)).heap.size by simp))) | (go_at_call 81; refine (length_any HJ.out hnj H ⟨g, 0, none⟩ _ _ hp2.out).mono ?_; rintro e w2 ⟨rfl, hb2⟩; rw [HT.out]; have R2 := Lib.hid (R1.out.call hb2); obtain ⟨d0, d1, d2, d3, d4⟩ := R2.out.five; obtain ⟨f0, f1, f2, f3, f4⟩ := R2.out.free5))
        refine bodyPost_ret (v := .tuple #[.agg #[.string ⟨#[]⟩, .slice none 0 0, .slice none 0 0, .slice none 0 0, .slice none 0 0], .int .i64 2]) (by simp [results, Try.results86, go_sem, d0, d1, d2, d3, d4]) rfl ⟨rfl, ?_⟩
        have b1 := Below.step B1.out hb2
        exact b1.setCell (by simp) _ |>.setCell (by simp) _ |>.setCell (by simp) _ |>.setCell (by simp) _ |>.setCell (by simp) _

set_option maxHeartbeats 2000000 in
set_option maxRecDepth 100000 in
theorem checkPlace_good {L : Ll} {p : Int} (h : plErr L p = 0) (H : Hds) (hL : L.ok) (w : World) (hA : LnAt w w.heap.size L H) :
    Calls Try.prog 86 #[(.agg #[.string L.name, .slice H.j.A L.js.length H.j.c, .slice H.b.A L.bs.length H.b.c, .slice H.s.A L.ss.length H.s.c]), .int .i64 p] w fun e w' => ∃ g, e = .returned (.tuple #[.agg #[.string L.name, .slice H.j.A L.js.length H.j.c, .slice H.b.A L.bs.length H.b.c, .slice H.s.A L.ss.length H.s.c, .slice (some ⟨g, 0, none⟩) L.js.length L.js.length], .int .i64 0]) ∧ Below w.heap.size w w' ∧ Lies w' w'.heap.size (some ⟨g, 0, none⟩) (ic (placesL L)) ∧ w.heap.size ≤ g := by
  have b0 := ((Below.refl w.heap.size w).alloc (Nat.le_refl _) (.cells #[.string L.name, .slice H.j.A L.js.length H.j.c, .slice H.b.A L.bs.length H.b.c, .slice H.s.A L.ss.length H.s.c] 26)).alloc (by simp) (.cells #[.string ⟨#[]⟩, .slice none 0 0, .slice none 0 0, .slice none 0 0, .slice none 0 0] 119)
  have R0 := Lib.hid (Bk.new1 w (.cells #[.string L.name, .slice H.j.A L.js.length H.j.c, .slice H.b.A L.bs.length H.b.c, .slice H.s.A L.ss.length H.s.c] 26) 119 #[.string ⟨#[]⟩, .slice none 0 0, .slice none 0 0, .slice none 0 0, .slice none 0 0])
  have HB := Lib.hid b0
  have HA := Lib.hid ((hA.below b0).more b0.size)
  have hnj := hL.nj
  obtain ⟨hr, hck, p0, p1⟩ := plErr_good h
  have HC := Lib.hid hck
  have HR := Lib.hid hr
  have HJ := Lib.hid hr.jb
  obtain ⟨T, hT⟩ : ∃ T, placeL L.bs L.bs.length = T := ⟨_, rfl⟩
  rw [hT] at p1
  have HT := Lib.hid hT
  clear hA b0 hck hr h hT
  go_enter Try.func86, Try.ntmps86
  go_wp2_with (first | (go_at_call 80; refine (check_good HR.out HC.out H hL _ HA.out).mono ?_; rintro e w1 ⟨g, rfl, hb1, hP, hg⟩; have HP := Lib.hid hP; clear hP; have R1 := Lib.hid ((R0.out.call hb1).alloc (.cells #[.string L.name, .slice H.j.A L.js.length H.j.c, .slice H.b.A L.bs.length H.b.c, .slice H.s.A L.ss.length H.s.c, .slice (some ⟨g, 0, none⟩) L.js.length L.js.length] 119)); have C1 := Lib.hid (Bk.new w1 119 #[.string L.name, .slice H.j.A L.js.length H.j.c, .slice H.b.A L.bs.length H.b.c, .slice H.s.A L.ss.length H.s.c, .slice (some ⟨g, 0, none⟩) L.js.length L.js.length]); have B1 := Lib.hid ((Below.step HB.out hb1).alloc (Below.step HB.out hb1).size (.cells #[.string L.name, .slice H.j.A L.js.length H.j.c, .slice H.b.A L.bs.length H.b.c, .slice H.s.A L.ss.length H.s.c, .slice (some ⟨g, 0, none⟩) L.js.length L.js.length] 119)); have hp2 := Lib.hid ((HP.out.keep (fun p hp => World.cell?_alloc_lt w1 (.cells #[.string L.name, .slice H.j.A L.js.length H.j.c, .slice H.b.A L.bs.length H.b.c, .slice H.s.A L.ss.length H.s.c, .slice (some ⟨g, 0, none⟩) L.js.length L.js.length] 119) p hp)).more (show w1.heap.size ≤ (w1.alloc (.cells #[.string L.name, .slice H.j.A L.js.length H.j.c, .slice H.b.A L.bs.length H.b.c, .slice H.s.A L.ss.length H.s.c, .slice (some ⟨g, 0, none⟩) L.js.length L.js.length] 119)).heap.size by simp))) | (go_at_call 81; refine (length_any HJ.out hnj H ⟨g, 0, none⟩ _ _ hp2.out).mono ?_; rintro e w2 ⟨rfl, hb2⟩; rw [HT.out]; have R2 := Lib.hid (R1.out.call hb2); have C2 := Lib.hid (C1.out.call hb2); obtain ⟨d0, d1, d2, d3, d4⟩ := R2.out.five; obtain ⟨f0, f1, f2, f3, f4⟩ := R2.out.free5; obtain ⟨e0, e1, e2, e3, e4⟩ := C2.out.five))
  refine bodyPost_ret (v := .tuple #[.agg #[.string L.name, .slice H.j.A L.js.length H.j.c, .slice H.b.A L.bs.length H.b.c, .slice H.s.A L.ss.length H.s.c, .slice (some ⟨g, 0, none⟩) L.js.length L.js.length], .int .i64 0]) (by simp [results, Try.results86, go_sem, d0, d1, d2, d3, d4]) rfl ⟨g, rfl, ?_, ?_, by simp at hg; omega⟩
  · have b1 := Below.step B1.out hb2
    exact b1.setCell (by simp) _ |>.setCell (by simp) _ |>.setCell (by simp) _ |>.setCell (by simp) _ |>.setCell (by simp) _
  · have hg' : w.heap.size + 2 ≤ g := by simpa using hg
    have hp3 := Lies.call hp2.out hb2
    exact lies_far5 (B := w.heap.size) (by omega) hp3
end Go.Proofs.Ytmnlgeglmkdecaa
