/-
  The walks of checkSide, and of the limit at the joint of the example's line.
-/
import Derived.Test.YtmnlgeglmkdecaaTurn
import Derived.Test.YtmnlgeglmkdecaaShort
namespace Go.Proofs.Ytmnlgeglmkdecaa
open Go.RowKit

theorem lies_far {w : World} {g : Nat} {vs : List Value} {p : Addr} {u : Value} (h : Lies w w.heap.size (some ⟨g, 0, none⟩) vs) (hp : p.block ≠ g) : Lies (w.setCell p u) (w.setCell p u).heap.size (some ⟨g, 0, none⟩) vs := by
  intro j x hx
  obtain ⟨a, e, hb, hc⟩ := h j x hx
  cases e
  refine ⟨_, rfl, by simpa [World.setCell] using hb, ?_⟩
  rw [← hc]
  exact World.cell?_of_block (Below.heap_setCell w p u _ (by rw [add_blk]; exact fun e => hp e.symm))
theorem lies_far5 {w : World} {B g : Nat} {vs : List Value} {a b c d f : Value} (hg : B + 2 ≤ g) (h : Lies w w.heap.size (some ⟨g, 0, none⟩) vs) :
    Lies (((((w.setCell ⟨B + 1, 0, none⟩ a).setCell ⟨B + 1, 1, none⟩ b).setCell ⟨B + 1, 2, none⟩ c).setCell ⟨B + 1, 3, none⟩ d).setCell ⟨B + 1, 4, none⟩ f) (((((w.setCell ⟨B + 1, 0, none⟩ a).setCell ⟨B + 1, 1, none⟩ b).setCell ⟨B + 1, 2, none⟩ c).setCell ⟨B + 1, 3, none⟩ d).setCell ⟨B + 1, 4, none⟩ f).heap.size (some ⟨g, 0, none⟩) vs :=
  have hne : B + 1 ≠ g := by omega
  lies_far (lies_far (lies_far (lies_far (lies_far h hne) hne) hne) hne) hne

set_option maxHeartbeats 1000000 in
theorem checkSide_good {L : Ll} (hr : Right L) (hck : ckLine L = ((0, 0), 0)) (H : Hds) (hL : L.ok) (side : Int) (hs : inB side 0 5000 = true) (w : World) (hA : LnAt w w.heap.size L H) :
    Calls Try.prog 103 #[(.agg #[.string L.name, .slice H.j.A L.js.length H.j.c, .slice H.b.A L.bs.length H.b.c, .slice H.s.A L.ss.length H.s.c]), .int .i64 side] w fun e w' => ∃ g, e = .returned (.tuple #[.agg #[.string L.name, .slice H.j.A L.js.length H.j.c, .slice H.b.A L.bs.length H.b.c, .slice H.s.A L.ss.length H.s.c, .slice (some ⟨g, 0, none⟩) L.js.length L.js.length], .int .i64 0]) ∧ Below w.heap.size w w' ∧
      Lies w' w'.heap.size (some ⟨g, 0, none⟩) (ic (placesL L)) ∧ w.heap.size ≤ g := by
  have b0 := ((Below.refl w.heap.size w).alloc (Nat.le_refl _) (.cells #[.string L.name, .slice H.j.A L.js.length H.j.c, .slice H.b.A L.bs.length H.b.c, .slice H.s.A L.ss.length H.s.c] 26)).alloc (by simp) (.cells #[.string ⟨#[]⟩, .slice none 0 0, .slice none 0 0, .slice none 0 0, .slice none 0 0] 119)
  have R0 := Lib.hid (Bk.new1 w (.cells #[.string L.name, .slice H.j.A L.js.length H.j.c, .slice H.b.A L.bs.length H.b.c, .slice H.s.A L.ss.length H.s.c] 26) 119 #[.string ⟨#[]⟩, .slice none 0 0, .slice none 0 0, .slice none 0 0, .slice none 0 0])
  have HB := Lib.hid b0
  have HA := Lib.hid ((hA.below b0).more b0.size)
  have HC := Lib.hid hck
  have HR := Lib.hid hr
  clear b0 hA hck hr
  go_enter Try.func103, Try.ntmps103
  go_wp2_with (first | (go_at_call 110; refine (within_any _ _ _ _).mono ?_; rintro e w' ⟨rfl, rfl⟩) | (go_at_call 80; refine (check_good HR.out HC.out H hL _ HA.out).mono ?_; rintro e w1 ⟨g, rfl, hb1, hP, hg⟩; have HP := Lib.hid hP; clear hP; have R1 := Lib.hid ((R0.out.call hb1).alloc (.cells #[.string L.name, .slice H.j.A L.js.length H.j.c, .slice H.b.A L.bs.length H.b.c, .slice H.s.A L.ss.length H.s.c, .slice (some ⟨g, 0, none⟩) L.js.length L.js.length] 119)); obtain ⟨d0, d1, d2, d3, d4⟩ := R1.out.five; obtain ⟨f0, f1, f2, f3, f4⟩ := R1.out.free5))
  refine bodyPost_ret (v := .tuple #[.agg #[.string L.name, .slice H.j.A L.js.length H.j.c, .slice H.b.A L.bs.length H.b.c, .slice H.s.A L.ss.length H.s.c, .slice (some ⟨g, 0, none⟩) L.js.length L.js.length], .int .i64 0]) (by simp [results, Try.results103, go_sem, d0, d1, d2, d3, d4]) rfl ⟨g, rfl, ?_, ?_, by simp at hg; omega⟩
  · exact ((HB.out.trans (hb1.mono HB.out.size)).alloc (by have := HB.out.size; have := hb1.size; omega) _).setCell (by simp) _ |>.setCell (by simp) _ |>.setCell (by simp) _ |>.setCell (by simp) _ |>.setCell (by simp) _
  · have hg' : w.heap.size + 2 ≤ g := by simpa using hg
    exact lies_far5 hg' ((HP.out.keep (fun p hp => World.cell?_alloc_lt _ _ p hp)).more (by simp))
end Go.Proofs.Ytmnlgeglmkdecaa
