/-
  The walks of checkRide and of beamAt.
-/
import Derived.Test.YtmnlgeglmkdecaaLimit
namespace Go.Proofs.Ytmnlgeglmkdecaa
open Go.RowKit

set_option maxHeartbeats 1000000 in
theorem checkRide_good {L : Ll} (hr : Right L) (hck : ckLine L = ((0, 0), 0)) (H : Hds) (hL : L.ok) (v : Lv) (hv : vErr v = 0) (w : World) (hA : LnAt w w.heap.size L H) :
    Calls Try.prog 117 #[(.agg #[.string L.name, .slice H.j.A L.js.length H.j.c, .slice H.b.A L.bs.length H.b.c, .slice H.s.A L.ss.length H.s.c]), (.agg #[.int .i64 v.len, .int .i64 v.clear, .int .i64 v.step])] w fun e w' => ∃ g, e = .returned (.tuple #[.agg #[.string L.name, .slice H.j.A L.js.length H.j.c, .slice H.b.A L.bs.length H.b.c, .slice H.s.A L.ss.length H.s.c, .slice (some ⟨g, 0, none⟩) L.js.length L.js.length], .int .i64 0]) ∧ Below w.heap.size w w' ∧
      Lies w' w'.heap.size (some ⟨g, 0, none⟩) (ic (placesL L)) ∧ w.heap.size ≤ g := by
  have b0 := (((Below.refl w.heap.size w).alloc (Nat.le_refl _) (.cells #[.string L.name, .slice H.j.A L.js.length H.j.c, .slice H.b.A L.bs.length H.b.c, .slice H.s.A L.ss.length H.s.c] 26)).alloc (by simp) (.cells #[.int .i64 v.len, .int .i64 v.clear, .int .i64 v.step] 77)).alloc (by simp; omega) (.cells #[.string ⟨#[]⟩, .slice none 0 0, .slice none 0 0, .slice none 0 0, .slice none 0 0] 119)
  have R0 := Lib.hid (Bk.new2 w (.cells #[.string L.name, .slice H.j.A L.js.length H.j.c, .slice H.b.A L.bs.length H.b.c, .slice H.s.A L.ss.length H.s.c] 26) (.cells #[.int .i64 v.len, .int .i64 v.clear, .int .i64 v.step] 77) 119 #[.string ⟨#[]⟩, .slice none 0 0, .slice none 0 0, .slice none 0 0, .slice none 0 0])
  have V0 := Lib.hid ((Bk.new1 w (.cells #[.string L.name, .slice H.j.A L.js.length H.j.c, .slice H.b.A L.bs.length H.b.c, .slice H.s.A L.ss.length H.s.c] 26) 77 #[.int .i64 v.len, .int .i64 v.clear, .int .i64 v.step]).alloc (.cells #[.string ⟨#[]⟩, .slice none 0 0, .slice none 0 0, .slice none 0 0, .slice none 0 0] 119))
  have HB := Lib.hid b0
  have HA := Lib.hid ((hA.below b0).more b0.size)
  have HC := Lib.hid hck
  have HR := Lib.hid hr
  have gv : (vErr v != 0) = false := by simp [hv]
  clear b0 hA hck hr hv
  go_enter Try.func117, Try.ntmps117
  go_wp2_with (first | (go_at_call 53; refine (CheckVehicle_any v _).mono ?_; rintro e w2 ⟨rfl, hb2⟩; have R2 := Lib.hid (R1.out.call hb2); have C2 := Lib.hid (C1.out.call hb2); obtain ⟨d0, d1, d2, d3, d4⟩ := R2.out.five; obtain ⟨f0, f1, f2, f3, f4⟩ := R2.out.free5; obtain ⟨e0, e1, e2, e3, e4⟩ := C2.out.five) | (go_at_call 80; refine (check_good HR.out HC.out H hL _ HA.out).mono ?_; rintro e w1 ⟨g, rfl, hb1, hP, hg⟩; have HP := Lib.hid hP; clear hP; have R1 := Lib.hid ((R0.out.call hb1).alloc (.cells #[.string L.name, .slice H.j.A L.js.length H.j.c, .slice H.b.A L.bs.length H.b.c, .slice H.s.A L.ss.length H.s.c, .slice (some ⟨g, 0, none⟩) L.js.length L.js.length] 119)); have V1 := Lib.hid ((V0.out.call hb1).alloc (.cells #[.string L.name, .slice H.j.A L.js.length H.j.c, .slice H.b.A L.bs.length H.b.c, .slice H.s.A L.ss.length H.s.c, .slice (some ⟨g, 0, none⟩) L.js.length L.js.length] 119)); have C1 := Lib.hid (Bk.new w1 119 #[.string L.name, .slice H.j.A L.js.length H.j.c, .slice H.b.A L.bs.length H.b.c, .slice H.s.A L.ss.length H.s.c, .slice (some ⟨g, 0, none⟩) L.js.length L.js.length]); obtain ⟨v0, v1, v2⟩ := V1.out.three))
  refine bodyPost_ret (v := .tuple #[.agg #[.string L.name, .slice H.j.A L.js.length H.j.c, .slice H.b.A L.bs.length H.b.c, .slice H.s.A L.ss.length H.s.c, .slice (some ⟨g, 0, none⟩) L.js.length L.js.length], .int .i64 0]) (by simp [results, Try.results117, go_sem, d0, d1, d2, d3, d4]) rfl ⟨g, rfl, ?_, ?_, by simp at hg; omega⟩
  · have b1 := Below.step HB.out hb1
    exact (Below.step (b1.alloc b1.size _) hb2).setCell (by simp; omega) _ |>.setCell (by simp; omega) _ |>.setCell (by simp; omega) _ |>.setCell (by simp; omega) _ |>.setCell (by simp; omega) _
  · have hg' : w.heap.size + 3 ≤ g := by simpa using hg
    have hp2 := Lies.call ((HP.out.keep (fun p hp => World.cell?_alloc_lt _ _ p hp)).more (by simp)) hb2
    exact lies_far5 (B := w.heap.size + 1) (by omega) hp2

/-- The beam at a place, by its number. -/
def AtBeam (L : Ll) (p : Int) (k : Nat) : Prop := k < L.bs.length ∧ placeL L.bs k ≤ p ∧ ∀ j, k < j → j < L.bs.length → p < placeL L.bs j

set_option maxHeartbeats 1000000 in
theorem beamAt_any {L : Ll} (hr : Right L) (H : Hds) (P : Addr) (pc : Nat) (p : Int) (p0 : 0 ≤ p) (p1 : p ≤ 2000000) (w : World) (hP : Lies w w.heap.size (some P) (ic (placesL L))) :
    Calls Try.prog 87 #[(.agg #[.string L.name, .slice H.j.A L.js.length H.j.c, .slice H.b.A L.bs.length H.b.c, .slice H.s.A L.ss.length H.s.c, .slice (some P) L.js.length pc]), .int .i64 p] w fun e w' => ∃ k : Nat, e = .returned (.tuple #[.int .i64 k, .int .i64 (p - placeL L.bs k)]) ∧ AtBeam L p k ∧ Below w.heap.size w w' := by
  have hj := hr.jb
  have h40 := hr.most
  have h1 := hr.one
  have hjl : L.bs.length < L.js.length := by omega
  have b0 := (Below.refl w.heap.size w).alloc (Nat.le_refl _) (.cells #[.string L.name, .slice H.j.A L.js.length H.j.c, .slice H.b.A L.bs.length H.b.c, .slice H.s.A L.ss.length H.s.c, .slice (some P) L.js.length pc] 119)
  have HB := Lib.hid b0
  have HP := Lib.hid (hP.below b0)
  have HR := Lib.hid hr
  have hjb : L.js.length ≤ 41 := by omega
  clear hj b0 hP hr
  go_enter Try.func87, Try.ntmps87
  go_wp2_with fail
  go_loop [6] (fun i => ∃ k : Nat, k < L.bs.length ∧ i = .int .i64 k ∧ ∀ (j : Nat), k < j → j < L.bs.length → p < placeL L.bs j) (fun i => (intOf i).toNat)
  case atStart => exact ⟨L.bs.length - 1, by omega, by go_num, fun j h1 h2 => by omega⟩
  case round =>
    obtain ⟨k, hk, rfl, hz⟩ := hrel
    have HZ := Lib.hid hz
    have q0 := HP.out.place (k := k) (by omega)
    obtain ⟨s1, s2⟩ := placeL_bound L.bs HR.out.b k (by omega)
    clear hz
    have hkj : k < L.js.length := by omega
    by_cases hlt : p < placeL L.bs k
    · have hk0 : 1 ≤ k := by
        rcases Nat.eq_zero_or_pos k with h | h
        · subst h; simp [placeL] at hlt; omega
        · exact h
      go_wp2_with fail
      go_round
      case rel => exact ⟨k - 1, by omega, by go_num, fun j h1 h2 => if h : j = k then (by subst h; exact hlt) else HZ.out j (by omega) h2⟩
      case measure => simp [intOf]; omega
    · go_wp2_with fail
      go_region
      go_wp2_with fail
      go_ret2
      exact ⟨k, rfl, ⟨hk, by omega, HZ.out⟩, HB.out.drew⟩
end Go.Proofs.Ytmnlgeglmkdecaa
