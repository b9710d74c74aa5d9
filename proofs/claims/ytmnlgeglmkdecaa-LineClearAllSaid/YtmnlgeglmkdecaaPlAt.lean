/-
  Places, with their answers by name; a law's line and two fractions in memory.
-/
import Derived.Test.YtmnlgeglmkdecaaAwake
import Derived.Test.YtmnlgeglmkdecaaRefPl2
namespace Go.Proofs.Ytmnlgeglmkdecaa
open Go.RowKit

theorem Copy_at (L : Ll) (H : Hds) (hL : L.ok) (hH : HdsOk H) (w : World) (hA : LnAt w w.heap.size L H) :
    Calls Try.prog 18 #[(.agg #[.string L.name, .slice H.j.A L.js.length H.j.c, .slice H.b.A L.bs.length H.b.c, .slice H.s.A L.ss.length H.s.c])] w fun e w' => ∃ G : Hds, e = .returned (.agg #[.string L.name, .slice G.j.A L.js.length G.j.c, .slice G.b.A L.bs.length G.b.c, .slice G.s.A L.ss.length G.s.c]) ∧ LnAt w' w'.heap.size L G ∧ Below w.heap.size w w' :=
  (Copy_any L H hL hH w hA).mono fun _ _ ⟨G, he, h1, _, h2⟩ => ⟨G, he, h1, h2⟩
theorem LineErr_at {L : Ll} {m1 m2 er : Int} (hck : ckLine L = ((m1, m2), er)) (H : Hds) (hL : L.ok) (w : World) (hA : LnAt w w.heap.size L H) :
    Calls Try.prog 28 #[(.agg #[.string L.name, .slice H.j.A L.js.length H.j.c, .slice H.b.A L.bs.length H.b.c, .slice H.s.A L.ss.length H.s.c])] w fun e w' => e = .returned (.int .i64 er) ∧ Below w.heap.size w w' := by
  have := LineErr_any L H hL w hA
  rw [hck] at this
  exact this
theorem PlaceErr_at {L : Ll} (hr : Right L) {p er : Int} (he : (if inB p 0 (placeL L.bs L.bs.length) then (0 : Int) else 2) = er) (H : Hds) (hL : L.ok) (w : World) (hA : LnAt w w.heap.size L H) :
    Calls Try.prog 29 #[(.agg #[.string L.name, .slice H.j.A L.js.length H.j.c, .slice H.b.A L.bs.length H.b.c, .slice H.s.A L.ss.length H.s.c]), .int .i64 p] w fun e w' => e = .returned (.int .i64 er) ∧ Below w.heap.size w w' := by
  subst he
  exact PlaceErr_any hr H hL p w hA
theorem BeamAt_at {L : Ll} {p k d : Int} (h : plErr L p = 0) (hk : (beamOf L p : Int) = k) (hd : p - placeL L.bs (beamOf L p) = d) (H : Hds) (hL : L.ok) (w : World) (hA : LnAt w w.heap.size L H) :
    Calls Try.prog 25 #[(.agg #[.string L.name, .slice H.j.A L.js.length H.j.c, .slice H.b.A L.bs.length H.b.c, .slice H.s.A L.ss.length H.s.c]), .int .i64 p] w fun e w' => e = .returned (.tuple #[.int .i64 k, .int .i64 d, .int .i64 0]) ∧ Below w.heap.size w w' := by
  subst hk hd
  exact BeamAt_good h H hL w hA
theorem refBeamAt_at {L : Ll} (hr : Right L) {p k d : Int} (p0 : 0 ≤ p) (p1 : p ≤ 2000000) (hk : (beamOf L p : Int) = k) (hd : p - placeL L.bs (beamOf L p) = d) (H : Hds) (hL : L.ok) (w : World) (hA : LnAt w w.heap.size L H) :
    Calls Try.prog 30 #[(.agg #[.string L.name, .slice H.j.A L.js.length H.j.c, .slice H.b.A L.bs.length H.b.c, .slice H.s.A L.ss.length H.s.c]), .int .i64 p] w fun e w' => e = .returned (.tuple #[.int .i64 k, .int .i64 d]) ∧ Below w.heap.size w w' := by
  subst hk hd
  exact refBeamAt_any hr H hL p p0 p1 w hA
theorem AcrossAt_at {L : Ll} {p a b : Int} (h : plErr L p = 0) (hv : lowV (numAt L Lj.x p) (lenL L (beamOf L p)) = .agg #[.int .i64 a, .int .i64 b]) (H : Hds) (hL : L.ok) (w : World) (hA : LnAt w w.heap.size L H) :
    Calls Try.prog 26 #[(.agg #[.string L.name, .slice H.j.A L.js.length H.j.c, .slice H.b.A L.bs.length H.b.c, .slice H.s.A L.ss.length H.s.c]), .int .i64 p] w fun e w' => e = .returned (.tuple #[.agg #[.int .i64 a, .int .i64 b], .int .i64 0]) ∧ Below w.heap.size w w' := by
  rw [← hv]
  exact AcrossAt_good h H hL w hA
theorem refAcrossAt_at {L : Ll} (hr : Right L) {p a b : Int} (p0 : 0 ≤ p) (p1 : p ≤ placeL L.bs L.bs.length) (hv : lowV (numAt L Lj.x p) (lenL L (beamOf L p)) = .agg #[.int .i64 a, .int .i64 b]) (H : Hds) (hL : L.ok) (w : World) (hA : LnAt w w.heap.size L H) :
    Calls Try.prog 31 #[(.agg #[.string L.name, .slice H.j.A L.js.length H.j.c, .slice H.b.A L.bs.length H.b.c, .slice H.s.A L.ss.length H.s.c]), .int .i64 p] w fun e w' => e = .returned (.agg #[.int .i64 a, .int .i64 b]) ∧ Below w.heap.size w w' := by
  rw [← hv]
  exact refAcrossAt_any hr H hL p p0 p1 w hA
theorem UpAt_at {L : Ll} {p a b : Int} (h : plErr L p = 0) (hv : lowV (numAt L Lj.u p) (lenL L (beamOf L p)) = .agg #[.int .i64 a, .int .i64 b]) (H : Hds) (hL : L.ok) (w : World) (hA : LnAt w w.heap.size L H) :
    Calls Try.prog 27 #[(.agg #[.string L.name, .slice H.j.A L.js.length H.j.c, .slice H.b.A L.bs.length H.b.c, .slice H.s.A L.ss.length H.s.c]), .int .i64 p] w fun e w' => e = .returned (.tuple #[.agg #[.int .i64 a, .int .i64 b], .int .i64 0]) ∧ Below w.heap.size w w' := by
  rw [← hv]
  exact UpAt_good h H hL w hA
theorem refUpAt_at {L : Ll} (hr : Right L) {p a b : Int} (p0 : 0 ≤ p) (p1 : p ≤ placeL L.bs L.bs.length) (hv : lowV (numAt L Lj.u p) (lenL L (beamOf L p)) = .agg #[.int .i64 a, .int .i64 b]) (H : Hds) (hL : L.ok) (w : World) (hA : LnAt w w.heap.size L H) :
    Calls Try.prog 32 #[(.agg #[.string L.name, .slice H.j.A L.js.length H.j.c, .slice H.b.A L.bs.length H.b.c, .slice H.s.A L.ss.length H.s.c]), .int .i64 p] w fun e w' => e = .returned (.agg #[.int .i64 a, .int .i64 b]) ∧ Below w.heap.size w w' := by
  rw [← hv]
  exact refUpAt_any hr H hL p p0 p1 w hA

/-- What is known of the world in the last statement: the line, two fractions in boxes, and the cells that are read. -/
structure TwoF (w W : World) (L : Ll) (H : Hds) (gx gy : Nat) (a b c d : Int) : Prop where
  st : LawSt w W L H
  x : Bk W gx 46 #[.int .i64 a, .int .i64 b]
  y : Bk W gy 46 #[.int .i64 c, .int .i64 d]
section
variable {w W W' : World} {L : Ll} {H : Hds} {gx gy : Nat} {a b c d : Int}
theorem TwoF.call (h : TwoF w W L H gx gy a b c d) (hb : Below W.heap.size W W') : TwoF w W' L H gx gy a b c d := ⟨h.st.call hb, h.x.call hb, h.y.call hb⟩
theorem TwoF.drew (h : TwoF w W L H gx gy a b c d) : TwoF w W.drew L H gx gy a b c d := ⟨h.st.drew, h.x, h.y⟩
def TwoS (w : World) (L : Ll) (H : Hds) (gx gy : Nat) (a b c d : Int) (W : World) : Prop :=
  TwoF w W L H gx gy a b c d ∧ W.cell? ⟨w.heap.size, 0, none⟩ = some (.string L.name) ∧ W.cell? ⟨w.heap.size, 1, none⟩ = some (.slice H.j.A L.js.length H.j.c) ∧ W.cell? ⟨w.heap.size, 2, none⟩ = some (.slice H.b.A L.bs.length H.b.c) ∧ W.cell? ⟨w.heap.size, 3, none⟩ = some (.slice H.s.A L.ss.length H.s.c) ∧
    W.cell? ⟨gx, 0, none⟩ = some (.int .i64 a) ∧ W.cell? ⟨gx, 1, none⟩ = some (.int .i64 b) ∧ W.cell? ⟨gy, 0, none⟩ = some (.int .i64 c) ∧ W.cell? ⟨gy, 1, none⟩ = some (.int .i64 d)
theorem TwoF.all (h : TwoF w W L H gx gy a b c d) : TwoS w L H gx gy a b c d W :=
  ⟨h, h.st.box.cell 0, h.st.box.cell 1, h.st.box.cell 2, h.st.box.cell 3, h.x.cell 0, h.x.cell 1, h.y.cell 0, h.y.cell 1⟩
end
end Go.Proofs.Ytmnlgeglmkdecaa
