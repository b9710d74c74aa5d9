/-
  The beam at a place, by reckoning; the deviation at a joint by it.
-/
import Derived.Test.YtmnlgeglmkdecaaDev
import Derived.Test.YtmnlgeglmkdecaaTurn
namespace Go.Proofs.Ytmnlgeglmkdecaa
open Go.RowKit

/-- The beam at a place, looked for from beam k down. -/
def beamFrom (L : Ll) (p : Int) : Nat → Nat
  | 0 => 0
  | k + 1 => if placeL L.bs (k + 1) ≤ p then k + 1 else beamFrom L p k
def beamOf (L : Ll) (p : Int) : Nat := beamFrom L p (L.bs.length - 1)
theorem beamFrom_le (L : Ll) (p : Int) : ∀ k, beamFrom L p k ≤ k
  | 0 => Nat.le_refl _
  | k + 1 => by
    rw [beamFrom]
    split
    · exact Nat.le_refl _
    · exact Nat.le_succ_of_le (beamFrom_le L p k)
theorem beamFrom_at (L : Ll) {p : Int} (h0 : 0 ≤ p) : ∀ k, placeL L.bs (beamFrom L p k) ≤ p
  | 0 => by rw [beamFrom]; simp [placeL]; exact h0
  | k + 1 => by
    rw [beamFrom]
    split
    · assumption
    · exact beamFrom_at L h0 k
theorem beamFrom_gt (L : Ll) (p : Int) : ∀ k j, beamFrom L p k < j → j ≤ k → p < placeL L.bs j
  | 0, j, h, hj => by omega
  | k + 1, j, h, hj => by
    rw [beamFrom] at h
    split at h
    · omega
    · rename_i hn
      by_cases e : j = k + 1
      · subst e; omega
      · exact beamFrom_gt L p k j h (by omega)
theorem beamOf_at {L : Ll} (hr : Right L) {p : Int} (h0 : 0 ≤ p) : AtBeam L p (beamOf L p) := by
  have h1 := hr.one
  have h2 := beamFrom_le L p (L.bs.length - 1)
  exact ⟨by unfold beamOf; omega, beamFrom_at L h0 _, fun j h hj => beamFrom_gt L p _ j h (by omega)⟩
theorem beamOf_end {L : Ll} (hr : Right L) {p : Int} (h0 : 0 ≤ p) (h1 : p ≤ placeL L.bs L.bs.length) : 0 ≤ p - placeL L.bs (beamOf L p) ∧ p - placeL L.bs (beamOf L p) ≤ lenL L (beamOf L p) := by
  obtain ⟨a, b, c⟩ := beamOf_at hr h0
  refine ⟨by omega, ?_⟩
  rw [lenL_eq a]
  have hs := placeL_succ L.bs _ a
  by_cases e : beamOf L p + 1 = L.bs.length
  · rw [e] at hs; omega
  · have := c (beamOf L p + 1) (by omega) (by omega); omega
theorem lenL_in {L : Ll} (hr : Right L) {k : Nat} (hk : k < L.bs.length) : 1000 ≤ lenL L k ∧ lenL L k ≤ 30000 := by
  rw [lenL_eq hk]; exact beam_len (hr.b _ (List.getElem_mem hk))

/-- What each joint counts beneath a pose; the whole; the deviation. -/
def devF (L : Ll) (v : Lv) (p : Int) (j : Nat) : Nat → Int :=
  partsF v.len (lenL L (beamOf L p)) (lenL L (beamOf L (p + v.len))) (p - placeL L.bs (beamOf L p)) (p + v.len - placeL L.bs (beamOf L (p + v.len))) (placeL L.bs j - p) j (beamOf L p) (beamOf L (p + v.len))
def devW (L : Ll) (v : Lv) (p : Int) : Int := v.len * lenL L (beamOf L p) * lenL L (beamOf L (p + v.len))
def devLo (L : Ll) (v : Lv) (p : Int) (j : Nat) : Int := upTo (addLo L (devF L v p j)) (beamOf L p) (beamOf L (p + v.len) + 2) / devW L v p
def devHi (L : Ll) (v : Lv) (p : Int) (j : Nat) : Int := -(-upTo (addHi L (devF L v p j)) (beamOf L p) (beamOf L (p + v.len) + 2) / devW L v p)

theorem vErr_in {v : Lv} (h : vErr v = 0) : (1000 ≤ v.len ∧ v.len ≤ 30000) ∧ (0 ≤ v.clear ∧ v.clear ≤ 1000) ∧ (100 ≤ v.step ∧ v.step ≤ 30000) := by
  unfold vErr at h
  split at h
  · rename_i h1; simp only [Bool.and_eq_true, inB_iff] at h1; exact ⟨h1.1.1, h1.1.2, h1.2⟩
  · simp at h

theorem deviation_at {L : Ll} (hr : Right L) (H : Hds) (P : Addr) (pc : Nat) (v : Lv) (hv : vErr v = 0) (p : Int) (j : Nat) (hp : 0 ≤ p) (hpt : p + v.len ≤ placeL L.bs L.bs.length) (hj : j < L.js.length) (hj1 : p ≤ placeL L.bs j) (hj2 : placeL L.bs j ≤ p + v.len)
    (w : World) (hA : LnAt w w.heap.size L H) (hP : Lies w w.heap.size (some P) (ic (placesL L))) :
    Calls Try.prog 113 #[(.agg #[.string L.name, .slice H.j.A L.js.length H.j.c, .slice H.b.A L.bs.length H.b.c, .slice H.s.A L.ss.length H.s.c, .slice (some P) L.js.length pc]), (.agg #[.int .i64 v.len, .int .i64 v.clear, .int .i64 v.step]), .int .i64 p, .int .i64 j] w fun e w' => e = .returned (.agg #[.int .i64 (devLo L v p j), .int .i64 (devHi L v p j)]) ∧ Below w.heap.size w w' := by
  obtain ⟨vl, _⟩ := vErr_in hv
  have pb := (placeL_bound L.bs hr.b L.bs.length (Nat.le_refl _)).2
  have h40 := hr.most
  have r1 := beamOf_at hr hp
  have q1 := beamOf_at hr (show 0 ≤ p + v.len by omega)
  have r2 := beamOf_end hr hp (by omega)
  have q2 := beamOf_end hr (show 0 ≤ p + v.len by omega) hpt
  have hR : L.bs[beamOf L p]? = some (L.bs[beamOf L p]'r1.1) := List.getElem?_eq_getElem r1.1
  have hQ : L.bs[beamOf L (p + v.len)]? = some (L.bs[beamOf L (p + v.len)]'q1.1) := List.getElem?_eq_getElem q1.1
  have hRl := lenL_in hr r1.1
  have hQl := lenL_in hr q1.1
  rw [lenL_eq r1.1] at hRl r2
  rw [lenL_eq q1.1] at hQl q2
  have h := deviation_any hr H P pc v p j _ _ vl hp hpt (by omega) r1 q1 hj hj1 hj2 _ _ hR hQ hRl hQl _ _ _ rfl rfl rfl r2 q2 w hA hP
  refine h.mono ?_
  rintro e w' ⟨rfl, hb⟩
  refine ⟨?_, hb⟩
  unfold devLo devHi devF devW
  rw [lenL_eq r1.1, lenL_eq q1.1]

end Go.Proofs.Ytmnlgeglmkdecaa
