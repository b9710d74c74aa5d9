/-
  The walk of the reference's SteepestOf.
-/
import Derived.Test.YthdbjbdfcnepgaaSteep
import Derived.Deep.DeepCutAuto
import Derived.Deep.CutRange
namespace Go.Proofs.Ythdbjbdfcnepgaa
open Go.RowKit

/-- The line's box, the result's, the line in memory below the call's own. -/
structure RX (w W : World) (L : Ll) (H : Hds) : Prop where
  box : Bk W w.heap.size 26 #[.string L.name, .slice H.j.A L.js.length H.j.c, .slice H.b.A L.bs.length H.b.c, .slice H.s.A L.ss.length H.s.c]
  res : Bk W (w.heap.size + 1) 46 #[.int .i64 0, .int .i64 0]
  bl : Below w.heap.size w W
  ln : LnAt W w.heap.size L H
section
variable {w W W' : World} {L : Ll} {H : Hds}
theorem RX.lnW (h : RX w W L H) : LnAt W W.heap.size L H := h.ln.more h.bl.size
theorem RX.call (h : RX w W L H) (hb : Below W.heap.size W W') : RX w W' L H := ⟨h.box.call hb, h.res.call hb, Below.step h.bl hb, h.ln.below (hb.mono h.bl.size)⟩
theorem RX.from (hb : Below W.heap.size W W') (h : RX w W L H) : RX w W' L H := h.call hb
theorem RX.alloc (h : RX w W L H) (o : Obj) : RX w (W.alloc o) L H := h.call ((Below.refl _ W).alloc (Nat.le_refl _) o)
theorem RX.drew (h : RX w W L H) : RX w W.drew L H := ⟨h.box, h.res, h.bl.drew, h.ln.keep (fun _ _ => rfl)⟩
theorem RX.set (h : RX w W L H) {p : Addr} (hp : w.heap.size + 2 ≤ p.block) (v : Value) : RX w (W.setCell p v) L H :=
  ⟨h.box.far (by omega) _, h.res.far (by omega) _, h.bl.setCell (by omega) _, h.ln.below ((Below.refl _ W).setCell (by omega) _)⟩
theorem RX.start (hA : LnAt w w.heap.size L H) : RX w ((w.alloc (.cells #[.string L.name, .slice H.j.A L.js.length H.j.c, .slice H.b.A L.bs.length H.b.c, .slice H.s.A L.ss.length H.s.c] 26)).alloc (.cells #[.int .i64 0, .int .i64 0] 46)) L H :=
  have b0 := ((Below.refl w.heap.size w).alloc (Nat.le_refl _) (.cells #[.string L.name, .slice H.j.A L.js.length H.j.c, .slice H.b.A L.bs.length H.b.c, .slice H.s.A L.ss.length H.s.c] 26)).alloc (by simp) (.cells #[.int .i64 0, .int .i64 0] 46)
  ⟨(Bk.new w _ _).alloc _, Bk.new1 w _ _ _, b0, hA.below b0⟩
theorem RX.size (h : RX w W L H) : w.heap.size + 2 ≤ W.heap.size := h.res.lt
theorem RX.set2 (h : RX w W L H) (a b : Value) : Below w.heap.size w ((W.setCell ⟨w.heap.size + 1, 0, none⟩ a).setCell ⟨w.heap.size + 1, 1, none⟩ b) := (h.bl.setCell (by simp) _).setCell (by simp) _
end
/-- Two fractions in boxes of a round. -/
structure GF (w W : World) (L : Ll) (H : Hds) (g6 g7 : Nat) (a b c d : Int) : Prop where
  x : RX w W L H
  k0 : W.cell? ⟨g6, 0, none⟩ = some (.int .i64 a)
  k1 : W.cell? ⟨g6, 1, none⟩ = some (.int .i64 b)
  k2 : W.cell? ⟨g7, 0, none⟩ = some (.int .i64 c)
  k3 : W.cell? ⟨g7, 1, none⟩ = some (.int .i64 d)
section
variable {w W W' : World} {L : Ll} {H : Hds} {g6 g7 : Nat} {a b c d : Int}
theorem GF.from (hb : Below W.heap.size W W') (h : GF w W L H g6 g7 a b c d) : GF w W' L H g6 g7 a b c d :=
  ⟨h.x.call hb, (hb.cell (cell_lt h.k0)).trans h.k0, (hb.cell (cell_lt h.k1)).trans h.k1, (hb.cell (cell_lt h.k2)).trans h.k2, (hb.cell (cell_lt h.k3)).trans h.k3⟩
theorem GF.drew (h : GF w W L H g6 g7 a b c d) : GF w W.drew L H g6 g7 a b c d := ⟨h.x.drew, h.k0, h.k1, h.k2, h.k3⟩
theorem GF.all (h : GF w W L H g6 g7 a b c d) : GF w W L H g6 g7 a b c d ∧ W.cell? ⟨g6, 0, none⟩ = some (.int .i64 a) ∧ W.cell? ⟨g6, 1, none⟩ = some (.int .i64 b) ∧ W.cell? ⟨g7, 0, none⟩ = some (.int .i64 c) ∧ W.cell? ⟨g7, 1, none⟩ = some (.int .i64 d) :=
  ⟨h, h.k0, h.k1, h.k2, h.k3⟩
end
theorem Size_at {x s : Int} (h : max x (-x) = s) (h0 : -9223372036854775807 ≤ x) (h1 : x ≤ 9223372036854775807) (w : World) : Calls Try.prog 100 #[.int .i64 x] w fun e w' => e = .returned (.int .i64 s) ∧ w = w' := by
  subst h
  exact Size_any x h0 h1 w
theorem Cmp_at {a b c d q : Int} (hq : cmpV a b c d = q) (ha : -1000000000 ≤ a ∧ a ≤ 1000000000) (hb : 0 ≤ b ∧ b ≤ 1000000000) (hc : -1000000000 ≤ c ∧ c ≤ 1000000000) (hd : 0 ≤ d ∧ d ≤ 1000000000) (w : World) :
    Calls Try.prog 93 #[.agg #[.int .i64 a, .int .i64 b], .agg #[.int .i64 c, .int .i64 d]] w fun e w' => e = .returned (.int .i64 q) ∧ Below w.heap.size w w' := by
  subst hq
  exact Cmp_any a b c d ha hb hc hd w
theorem grad_parts {L : Ll} (hr : Right L) {k : Nat} (hk : k < L.bs.length) {a b : Int} (hv : lowV (1000 * riseL L k) (lenL L k) = .agg #[.int .i64 a, .int .i64 b]) : (-40000000 ≤ a ∧ a ≤ 40000000) ∧ (1 ≤ b ∧ b ≤ 30000) := by
  have hl := lenL_in hr hk
  have hb := riseL_bound hr hk
  have h1 := low_num (n := 1000 * riseL L k) (d := lenL L k) (by omega)
  have h2 := low_den (n := 1000 * riseL L k) (d := lenL L k) (by omega)
  unfold lowV at hv
  simp only [Value.agg.injEq, Array.mk.injEq, List.cons.injEq, Value.int.injEq, true_and, and_true] at hv
  rw [hv.1] at h1
  rw [hv.2] at h2
  omega
/-- The sign of the comparison, of the sizes of two gradients. -/
theorem grad_cmp {L : Ll} (hr : Right L) {k s : Nat} (hk : k < L.bs.length) (hs : s < L.bs.length) {a b c d : Int} (hv : lowV (1000 * riseL L k) (lenL L k) = .agg #[.int .i64 a, .int .i64 b]) (hw : lowV (1000 * riseL L s) (lenL L s) = .agg #[.int .i64 c, .int .i64 d]) :
    0 < cmpV (max a (-a)) b (max c (-c)) d ↔ absR L s * lenL L k < absR L k * lenL L s := by
  have l1 := lenL_in hr hk
  have l2 := lenL_in hr hs
  have h := low_cmp (by omega) (by omega) hv hw
  have m : ∀ r : Int, max (1000 * r) (-(1000 * r)) = 1000 * max r (-r) := fun r => by omega
  rw [m, m, Int.mul_assoc, Int.mul_assoc] at h
  unfold absR cmpV
  constructor
  · intro h0
    have : max c (-c) * b < max a (-a) * d := by
      split at h0
      · omega
      · split at h0 <;> omega
    have := h.1 this
    omega
  · intro h0
    have := h.2 (by omega)
    rw [if_neg (by omega), if_pos this]
    omega

theorem bcell {W w1 : World} (hb : Below W.heap.size W w1) : (∀ b o, b < W.heap.size → w1.cell? ⟨b, o, none⟩ = W.cell? ⟨b, o, none⟩) ∧ (∀ b o, b < W.heap.size → w1.frozen? ⟨b, o, none⟩ = W.frozen? ⟨b, o, none⟩) :=
  ⟨fun b o h => hb.cell (p := ⟨b, o, none⟩) h, fun b o h => hb.frozen (p := ⟨b, o, none⟩) h⟩

set_option maxHeartbeats 4000000 in
set_option maxRecDepth 100000 in
theorem refSteepestOf_at {L : Ll} (hr : Right L) (H : Hds) (hL : L.ok) {st : Nat} (hst : steepN L (L.bs.length - 1) = st) {a b : Int} (hv : lowV (1000 * riseL L st) (lenL L st) = .agg #[.int .i64 a, .int .i64 b]) (w : World) (hA : LnAt w w.heap.size L H) :
    Calls Try.prog 41 #[(.agg #[.string L.name, .slice H.j.A L.js.length H.j.c, .slice H.b.A L.bs.length H.b.c, .slice H.s.A L.ss.length H.s.c])] w fun e w' => e = .returned (.tuple #[.int .i64 st, .agg #[.int .i64 a, .int .i64 b]]) ∧ Below w.heap.size w w' := by
  have S0 := Lib.hid (RX.start hA)
  have HR := Lib.hid hr
  have HV := Lib.hid hv
  have HST := Lib.hid hst
  have hnb := hL.nb
  have hone := hr.one
  have hmost := hr.most
  clear hA hr hv hst
  go_enter Try.func41, Try.ntmps41
  go_wp2_with fail
  go_loopw [4, 5] (fun s i wr => ∃ k : Nat, 1 ≤ k ∧ k ≤ L.bs.length ∧ i = .int .i64 k ∧ s = .int .i64 (steepN L (k - 1)) ∧ RX w wr L H) (fun _ i _ => L.bs.length - (intOf i).toNat)
  case atStart => exact ⟨1, Nat.le_refl _, hone, rfl, rfl, S0.out⟩
  case round =>
    clear S0
    obtain ⟨k, hk1, hk, rfl, rfl, hS⟩ := hrel
    have S1 := Lib.hid hS
    clear hS
    have hsl := steepN_le L (k - 1)
    by_cases hlt : k < L.bs.length
    · have hsb : steepN L (k - 1) < L.bs.length := by omega
      obtain ⟨x1, d1, hv1⟩ : ∃ a b, lowV (1000 * riseL L k) (lenL L k) = .agg #[.int .i64 a, .int .i64 b] := ⟨_, _, rfl⟩
      obtain ⟨x2, d2, hv2⟩ : ∃ a b, lowV (1000 * riseL L (steepN L (k - 1))) (lenL L (steepN L (k - 1))) = .agg #[.int .i64 a, .int .i64 b] := ⟨_, _, rfl⟩
      obtain ⟨⟨g1, g2⟩, g3, g4⟩ := grad_parts HR.out hlt hv1
      obtain ⟨⟨g5, g6⟩, g7, g8⟩ := grad_parts HR.out hsb hv2
      have key := grad_cmp HR.out hlt hsb hv1 hv2
      have hk' : (k : Int) < (L.bs.length : Int) := by omega
      obtain ⟨z1, hz1⟩ : ∃ z, max x1 (-x1) = z := ⟨_, rfl⟩
      obtain ⟨z2, hz2⟩ : ∃ z, max x2 (-x2) = z := ⟨_, rfl⟩
      rw [hz1, hz2] at key
      obtain ⟨q, hq⟩ : ∃ q, cmpV z1 d1 z2 d2 = q := ⟨_, rfl⟩
      rw [hq] at key
      have KY : Hid (steepN L k = if 0 < q then k else steepN L (k - 1)) := Lib.hid (by
        by_cases h0 : 0 < q
        · rw [if_pos h0]; exact steepN_yes (key.1 h0)
        · rw [if_neg h0]; exact steepN_no (fun h => h0 (key.2 h)))
      have hz1b : 0 ≤ z1 ∧ z1 ≤ 40000000 := by omega
      have hz2b : 0 ≤ z2 ∧ z2 ≤ 40000000 := by omega
      obtain ⟨y1, y2⟩ := hz1b
      obtain ⟨y3, y4⟩ := hz2b
      obtain ⟨s, hs⟩ : ∃ s, steepN L (k - 1) = s := ⟨_, rfl⟩
      rw [hs] at hv2 hsb hsl
      have HS := Lib.hid hs
      simp only [hs]
      have hs' : (s : Int) < (L.bs.length : Int) := by omega
      have HV1 := Lib.hid hv1
      have HV2 := Lib.hid hv2
      have HZ1 := Lib.hid hz1
      have HZ2 := Lib.hid hz2
      have HQ := Lib.hid hq
      clear hv1 hv2 hz1 hz2 hq hs key
      obtain ⟨c0, c1, c2, c3⟩ := S1.out.box.four
      have hsz := S1.out.size
      go_upto_region 5 with fail
      go_cut [6, 7] from 8 to 35 (fun s6 s7 wx => ∃ g6 g7 : Nat, s6 = .pointer (some ⟨g6, 0, none⟩) ∧ s7 = .pointer (some ⟨g7, 0, none⟩) ∧ RX w wx L H ∧ wx.cell? ⟨g6, 0, none⟩ = some (.int .i64 x1) ∧ wx.cell? ⟨g6, 1, none⟩ = some (.int .i64 d1) ∧ wx.cell? ⟨g7, 0, none⟩ = some (.int .i64 x2) ∧ wx.cell? ⟨g7, 1, none⟩ = some (.int .i64 d2))
      case first =>
        have NA : Hid (∀ W : World, RX w W L H → RX w W L H ∧ W.cell? ⟨w.heap.size, 0, none⟩ = some (.string L.name) ∧ W.cell? ⟨w.heap.size, 1, none⟩ = some (.slice H.j.A L.js.length H.j.c) ∧ W.cell? ⟨w.heap.size, 2, none⟩ = some (.slice H.b.A L.bs.length H.b.c) ∧ W.cell? ⟨w.heap.size, 3, none⟩ = some (.slice H.s.A L.ss.length H.s.c)) := Lib.hid (fun W h => ⟨h, h.box.cell 0, h.box.cell 1, h.box.cell 2, h.box.cell 3⟩)
        go_region_held3 (fun W => RX w W L H ∧ W.cell? ⟨w.heap.size, 0, none⟩ = some (.string L.name) ∧ W.cell? ⟨w.heap.size, 1, none⟩ = some (.slice H.j.A L.js.length H.j.c) ∧ W.cell? ⟨w.heap.size, 2, none⟩ = some (.slice H.b.A L.bs.length H.b.c) ∧ W.cell? ⟨w.heap.size, 3, none⟩ = some (.slice H.s.A L.ss.length H.s.c))
          ((go_split_ands; refine NA.out _ ?_; (first | assumption | exact S1.out.drew | (repeat (first | assumption | exact S1.out | refine RX.alloc ?_ _ | refine RX.drew ?_ | (refine RX.set ?_ (by first | omega | (simp; omega)) _)))); done))
          ((first | (go_at_call 43; go_split_ands; (with_reducible refine (refGradientOf_at HR.out H k hlt HV1.out _ (RX.lnW (w := w) (by repeat (first | assumption | exact S1.out.drew | exact S1.out | refine RX.alloc ?_ _ | refine RX.drew ?_)))).mono ?_); rintro e w1 ⟨rfl, hb1⟩; have R1 : RX w w1 L H := RX.from hb1 (by repeat (first | assumption | exact S1.out.drew | exact S1.out | refine RX.alloc ?_ _ | refine RX.drew ?_)); have zz1 := R1.size; obtain ⟨c0, c1, c2, c3⟩ := R1.box.four; have hs1 := hb1.size; (try simp at hs1); have hs1 : wr.heap.size ≤ w1.heap.size := (by omega); have hs1' := Lib.hid hs1; (first | (have N0 : Bk w1 wr.heap.size 46 #[.int .i64 0, .int .i64 0] := Bk.call (((Bk.new wr 46 #[.int .i64 0, .int .i64 0]).alloc (.cells #[.int .i64 0, .int .i64 0] 46)).drew) hb1; have N1 : Bk w1 (wr.heap.size + 1) 46 #[.int .i64 0, .int .i64 0] := Bk.call ((Bk.new1 wr (.cells #[.int .i64 0, .int .i64 0] 46) 46 #[.int .i64 0, .int .i64 0]).drew) hb1; obtain ⟨n0, n1, n2, n3⟩ := N0.two; obtain ⟨n4, n5, n6, n7⟩ := N1.two) | (have N0 : Bk w1 wr.heap.size 46 #[.int .i64 0, .int .i64 0] := Bk.call ((Bk.new wr 46 #[.int .i64 0, .int .i64 0]).drew) hb1; obtain ⟨n0, n1, n2, n3⟩ := N0.two) | skip)) | (go_at_call 43; go_split_ands; (with_reducible refine (refGradientOf_at HR.out H s hsb HV2.out _ (RX.lnW (w := w) (by repeat (first | assumption | exact S1.out.drew | exact S1.out | refine RX.alloc ?_ _ | refine RX.drew ?_)))).mono ?_); rintro e w2 ⟨rfl, hb2⟩; have hs2 := hb2.size; (try simp only [World.size_alloc] at hs2); have hs3 := hs1'.out; (try have q0 : ¬ wr.heap.size = w2.heap.size := by omega); (try have q1 : ¬ w2.heap.size = wr.heap.size := by omega); (try have q2 : ¬ wr.heap.size = w2.heap.size + 1 := by omega); (try have q3 : ¬ w2.heap.size + 1 = wr.heap.size := by omega); (try have q4 : ¬ wr.heap.size + 1 = w2.heap.size := by omega); (try have q5 : ¬ w2.heap.size = wr.heap.size + 1 := by omega); (try have q6 : ¬ wr.heap.size + 1 = w2.heap.size + 1 := by omega); (try have q7 : ¬ w2.heap.size + 1 = wr.heap.size + 1 := by omega); (try have q8 : ¬ w1.heap.size = w2.heap.size := by omega); (try have q9 : ¬ w2.heap.size = w1.heap.size := by omega); (try have q10 : ¬ w1.heap.size = w2.heap.size + 1 := by omega); (try have q11 : ¬ w2.heap.size + 1 = w1.heap.size := by omega); (try have q12 : ¬ w1.heap.size + 1 = w2.heap.size := by omega); (try have q13 : ¬ w2.heap.size = w1.heap.size + 1 := by omega); (try have q14 : ¬ w1.heap.size + 1 = w2.heap.size + 1 := by omega); (try have q15 : ¬ w2.heap.size + 1 = w1.heap.size + 1 := by omega); clear hs2 hs3; have R2 : RX w w2 L H := RX.from hb2 (by repeat (first | assumption | exact S1.out.drew | exact S1.out | refine RX.alloc ?_ _ | refine RX.drew ?_)); have zz2 := R2.size; (try (have M0 : Bk w2 wr.heap.size 46 #[.int .i64 0, .int .i64 0] := Bk.call (by first | exact N0 | exact N0.alloc _ | exact (N0.alloc _).alloc _) hb2; obtain ⟨m0, m1, m2, m3⟩ := M0.two; have maa : ∀ o : Obj, (w2.alloc o).cell? ⟨wr.heap.size, 0, none⟩ = some (.int .i64 0) := (fun o => (M0.alloc o).cell 0); have mab : ∀ o : Obj, (w2.alloc o).cell? ⟨wr.heap.size, 1, none⟩ = some (.int .i64 0) := (fun o => (M0.alloc o).cell 1); have mac : ∀ o : Obj, (w2.alloc o).frozen? ⟨wr.heap.size, 0, none⟩ = false := (fun o => (M0.alloc o).frozen 0); have mad : ∀ o : Obj, (w2.alloc o).frozen? ⟨wr.heap.size, 1, none⟩ = false := (fun o => (M0.alloc o).frozen 1))); (try (have M1 : Bk w2 (wr.heap.size + 1) 46 #[.int .i64 0, .int .i64 0] := Bk.call N1 hb2; obtain ⟨m4, m5, m6, m7⟩ := M1.two)); (first | (have K0 : Bk w2 w1.heap.size 46 #[.int .i64 0, .int .i64 0] := Bk.call ((Bk.new w1 46 #[.int .i64 0, .int .i64 0]).alloc (.cells #[.int .i64 0, .int .i64 0] 46)) hb2; have K1 : Bk w2 (w1.heap.size + 1) 46 #[.int .i64 0, .int .i64 0] := Bk.call (Bk.new1 w1 (.cells #[.int .i64 0, .int .i64 0] 46) 46 #[.int .i64 0, .int .i64 0]) hb2; obtain ⟨k0, k1, k2, k3⟩ := K0.two; obtain ⟨k4, k5, k6, k7⟩ := K1.two) | (have K0 : Bk w2 w1.heap.size 46 #[.int .i64 0, .int .i64 0] := Bk.call (Bk.new w1 46 #[.int .i64 0, .int .i64 0]) hb2; obtain ⟨k0, k1, k2, k3⟩ := K0.two; have kaa : ∀ o : Obj, (w2.alloc o).cell? ⟨w1.heap.size, 0, none⟩ = some (.int .i64 0) := (fun o => (K0.alloc o).cell 0); have kab : ∀ o : Obj, (w2.alloc o).cell? ⟨w1.heap.size, 1, none⟩ = some (.int .i64 0) := (fun o => (K0.alloc o).cell 1); have kac : ∀ o : Obj, (w2.alloc o).frozen? ⟨w1.heap.size, 0, none⟩ = false := (fun o => (K0.alloc o).frozen 0); have kad : ∀ o : Obj, (w2.alloc o).frozen? ⟨w1.heap.size, 1, none⟩ = false := (fun o => (K0.alloc o).frozen 1)) | skip)) | fail "arm"))
        all_goals
          go_split_ands
          go_wp2_with fail
          go_meet
          refine ⟨_, _, rfl, rfl, by assumption, ?_, ?_, ?_, ?_⟩
        all_goals (first | (go_simp; done) | (simp [*]; done) | skip)
      case rest =>
        obtain ⟨g6, g7, rfl, rfl, hX, k0, k1, k2, k3⟩ := hcut
        have G0 := Lib.hid (GF.mk hX k0 k1 k2 k3)
        clear hX
        have u1 : -9223372036854775807 ≤ x1 := by omega
        have u2 : x1 ≤ 9223372036854775807 := by omega
        have u3 : -9223372036854775807 ≤ x2 := by omega
        have u4 : x2 ≤ 9223372036854775807 := by omega
        by_cases h0 : 0 < q
        all_goals
          go_wp2_with fail
          go_region_held3 (fun W => GF w W L H g6 g7 x1 d1 x2 d2 ∧ W.cell? ⟨g6, 0, none⟩ = some (.int .i64 x1) ∧ W.cell? ⟨g6, 1, none⟩ = some (.int .i64 d1) ∧ W.cell? ⟨g7, 0, none⟩ = some (.int .i64 x2) ∧ W.cell? ⟨g7, 1, none⟩ = some (.int .i64 d2))
            ((go_split_ands; first | exact GF.all (by assumption) | exact GF.all (GF.from (by assumption) (by assumption)) | exact GF.all G0.out.drew | fail "keep"))
            ((first | (go_at_call 100; go_split_ands; (with_reducible refine (Size_at HZ1.out u1 u2 _).mono ?_); rintro e w' ⟨rfl, rfl⟩) | (go_at_call 100; go_split_ands; (with_reducible refine (Size_at HZ2.out u3 u4 _).mono ?_); rintro e w' ⟨rfl, rfl⟩) | (go_at_call 93; go_split_ands; refine (Cmp_at HQ.out (by omega) (by omega) (by omega) (by omega) _).mono ?_; rintro e w' ⟨rfl, hb⟩) | fail "arm"))
          all_goals
            go_split_ands
            go_wp2_with fail
            go_roundw
            case rel => exact ⟨k + 1, by omega, by omega, by go_num, (by rw [Nat.add_sub_cancel, KY.out]; first | (rw [if_pos (by omega)]; done) | (rw [if_neg (by omega), HS.out])), GF.x (by assumption)⟩
            case measure => simp [intOf]; omega
    · obtain rfl : k = L.bs.length := by omega
      clear hlt
      obtain ⟨c0, c1, c2, c3⟩ := S1.out.box.four
      have hs3 : st < L.bs.length := by have := HST.out; omega
      have hs4 : (st : Int) < (L.bs.length : Int) := by omega
      rw [HST.out]
      go_wp2_with fail
      refine (refGradientOf_at HR.out H st hs3 HV.out _ S1.out.lnW).mono ?_
      rintro e w2 ⟨rfl, hb2⟩
      have Q2 := Lib.hid (S1.out.call hb2)
      obtain ⟨d0, d1, f0, f1⟩ := Q2.out.res.two
      clear hb2 c0 c1 c2 c3 S1
      go_wp2_with fail
      refine bodyPost_ret (v := .tuple #[.int .i64 st, .agg #[.int .i64 a, .int .i64 b]]) (by simp [results, Try.results41, go_sem, d0, d1]) rfl ⟨rfl, ?_⟩
      exact RX.set2 Q2.out _ _
end Go.Proofs.Ythdbjbdfcnepgaa
