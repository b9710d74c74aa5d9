/-
  The walks of turn and checkSide.
-/
import Derived.Test.YtmnlgeglmkdecaaLim
import Derived.Deep.RegionWith
import Derived.Deep.RegionHeld3
namespace Go.Proofs.Ytmnlgeglmkdecaa
open Go.RowKit

theorem mul_bound {a b A B : Int} (h1 : -A ≤ a) (h2 : a ≤ A) (h3 : 0 ≤ b) (h4 : b ≤ B) : -(A * B) ≤ a * b ∧ a * b ≤ A * B := by
  have hA : 0 ≤ A := by omega
  have e1 : A * b ≤ A * B := Int.mul_le_mul_of_nonneg_left h4 hA
  have e2 : a * b ≤ A * b := Int.mul_le_mul_of_nonneg_right h2 h3
  have e3 : -A * b ≤ a * b := Int.mul_le_mul_of_nonneg_right h1 h3
  rw [Int.neg_mul] at e3
  omega
theorem Lies.call {w w' : World} {A : Option Addr} {vs : List Value} (h : Lies w w.heap.size A vs) (hb : Below w.heap.size w w') : Lies w' w'.heap.size A vs := (h.below hb).more hb.size
theorem Below.step {w W w1 : World} (h : Below w.heap.size w W) (hb : Below W.heap.size W w1) : Below w.heap.size w w1 := h.trans (hb.mono h.size)
theorem asideL_bound {L : Ll} (hr : Right L) {k : Nat} (hk : k < L.bs.length) : -40000 ≤ asideL L k ∧ asideL L k ≤ 40000 := by
  have hj := hr.jb
  obtain ⟨q1, _⟩ := jErr_zero (hr.j _ (List.getElem_mem (show k < L.js.length by omega)))
  obtain ⟨q2, _⟩ := jErr_zero (hr.j _ (List.getElem_mem (show k + 1 < L.js.length by omega)))
  obtain ⟨q3, q4⟩ := inB_iff.1 q1
  obtain ⟨q5, q6⟩ := inB_iff.1 q2
  unfold asideL
  rw [List.getElem?_eq_getElem (show k < L.js.length by omega), List.getElem?_eq_getElem (show k + 1 < L.js.length by omega)]
  simp only [Option.map_some, Option.getD_some]
  omega
theorem aside_int {L : Ll} (hr : Right L) (H : Hds) (P : Addr) (pc : Nat) (k : Int) (h0 : 0 ≤ k) (hk : k < L.bs.length) (w : World) (hA : Lies w w.heap.size H.j.A (L.js.flatMap jc)) :
    Calls Try.prog 128 #[(.agg #[.string L.name, .slice H.j.A L.js.length H.j.c, .slice H.b.A L.bs.length H.b.c, .slice H.s.A L.ss.length H.s.c, .slice (some P) L.js.length pc]), .int .i64 k] w fun e w' => e = .returned (.int .i64 (asideL L k.toNat)) ∧ Below w.heap.size w w' := by
  obtain ⟨k, rfl⟩ := Int.eq_ofNat_of_zero_le h0
  exact aside_any hr H P pc k (by omega) w hA
def lenL (L : Ll) (k : Nat) : Int := (L.bs[k]?.map Lb.len).getD 0
def turnL (L : Ll) (k : Nat) : Int := asideL L k * lenL L (k - 1) - asideL L (k - 1) * lenL L k
theorem lenL_eq {L : Ll} {k : Nat} (hk : k < L.bs.length) : lenL L k = L.bs[k].len := by unfold lenL; rw [List.getElem?_eq_getElem hk]; rfl

set_option maxHeartbeats 1000000 in
set_option maxRecDepth 100000 in
theorem turn_any {L : Ll} (hr : Right L) (H : Hds) (P : Addr) (pc : Nat) (k : Nat) (hk : k + 1 < L.bs.length) (w : World) (hA : LnAt w w.heap.size L H) :
    Calls Try.prog 98 #[(.agg #[.string L.name, .slice H.j.A L.js.length H.j.c, .slice H.b.A L.bs.length H.b.c, .slice H.s.A L.ss.length H.s.c, .slice (some P) L.js.length pc]), .int .i64 ((k : Int) + 1)] w fun e w' => e = .returned (.tuple #[.int .i64 (turnL L (k + 1)), .int .i64 (lenL L k * lenL L (k + 1))]) ∧ Below w.heap.size w w' := by
  obtain ⟨⟨Aj, cj⟩, ⟨Ab, cb⟩, ⟨As, cs⟩, each⟩ := H
  have h40 := hr.most
  have hk1 : k < L.bs.length := by omega
  obtain ⟨ab, hab⟩ : ∃ a, Ab = some a := by obtain ⟨a, h, _⟩ := hA.b.beam (List.getElem?_eq_getElem hk); exact ⟨a, h⟩
  subst hab
  have b0 := (Below.refl w.heap.size w).alloc (Nat.le_refl _) (.cells #[.string L.name, .slice Aj L.js.length cj, .slice (some ab) L.bs.length cb, .slice As L.ss.length cs, .slice (some P) L.js.length pc] 119)
  have x0 := Lib.hid (Bk.new w 119 #[.string L.name, .slice Aj L.js.length cj, .slice (some ab) L.bs.length cb, .slice As L.ss.length cs, .slice (some P) L.js.length pc])
  obtain ⟨a1, e1, _, y1, _⟩ := (hA.b.below b0).beam (List.getElem?_eq_getElem hk1)
  obtain ⟨a2, e2, _, y2, _⟩ := (hA.b.below b0).beam (List.getElem?_eq_getElem hk)
  simp only [Option.some.injEq] at e1 e2
  subst e1
  subst e2
  obtain ⟨p1, p2⟩ := beam_len (hr.b _ (List.getElem_mem hk1))
  obtain ⟨p3, p4⟩ := beam_len (hr.b _ (List.getElem_mem hk))
  obtain ⟨b, hbv⟩ : ∃ b, L.bs[k].len = b := ⟨_, rfl⟩
  obtain ⟨d, hdv⟩ : ∃ d, L.bs[k + 1].len = d := ⟨_, rfl⟩
  rw [hbv] at y1 p1 p2
  rw [hdv] at y2 p3 p4
  obtain ⟨s1, s2⟩ := asideL_bound hr hk
  obtain ⟨s3, s4⟩ := asideL_bound hr hk1
  obtain ⟨s, hsv⟩ : ∃ s, asideL L (k + 1) = s := ⟨_, rfl⟩
  obtain ⟨t, htv⟩ : ∃ t, asideL L k = t := ⟨_, rfl⟩
  rw [hsv] at s1 s2
  rw [htv] at s3 s4
  obtain ⟨m1, m2⟩ := mul_bound s1 s2 (by omega) p2
  obtain ⟨m3, m4⟩ := mul_bound s3 s4 (by omega) p4
  obtain ⟨m5, m6⟩ := mul_bound (A := 30000) (by omega) p2 (by omega) p4
  have hv := Lib.hid (show turnL L (k + 1) = s * b - t * d by unfold turnL; rw [lenL_eq hk, hdv, hsv, Nat.add_sub_cancel, htv, lenL_eq hk1, hbv])
  have hw := Lib.hid (show lenL L k * lenL L (k + 1) = b * d by rw [lenL_eq hk, hdv, lenL_eq hk1, hbv])
  have hl := Lib.hid ((hA.j.below b0).more b0.size)
  have HB := Lib.hid b0
  have HR := Lib.hid hr
  have hs' := Lib.hid hsv
  have ht' := Lib.hid htv
  clear hbv hdv hsv htv hr hA b0
  go_enter Try.func98, Try.ntmps98
  go_wp2_with fail
  go_region
  go_wp2_with fail
  obtain ⟨W0, hW0⟩ : ∃ W0, (w.alloc (.cells #[.string L.name, .slice Aj L.js.length cj, .slice (some ab) L.bs.length cb, .slice As L.ss.length cs, .slice (some P) L.js.length pc] 119)).drew = W0 := ⟨_, rfl⟩
  have l0 : Lies W0 W0.heap.size Aj (L.js.flatMap jc) := by rw [← hW0]; exact hl.out
  have z0 : Bk W0 w.heap.size 119 #[.string L.name, .slice Aj L.js.length cj, .slice (some ab) L.bs.length cb, .slice As L.ss.length cs, .slice (some P) L.js.length pc] := by rw [← hW0]; exact x0.out
  have BW : Below w.heap.size w W0 := by rw [← hW0]; exact HB.out.drew
  simp only [hW0]
  clear hW0 hl x0 HB y1 y2
  obtain ⟨c0, c1, c2, c3, c4⟩ := z0.five
  have k1 : Hid (((k : Int) + 1).toNat = k + 1) := Lib.hid (by omega)
  have k0 : Hid (((k : Int)).toNat = k) := Lib.hid (by omega)
  have BWd := BW.drew
  have q1 : (0 : Int) ≤ (k : Int) + 1 := by omega
  have q2 : (0 : Int) ≤ (k : Int) := by omega
  have r1 : (k : Int) + 1 < (L.bs.length : Int) := by omega
  have r2 : (k : Int) < (L.bs.length : Int) := by omega
  have v1 := IntWalk.i64_in (k : Int) (by omega)
  have v2 := IntWalk.i64_in (s * b) (by omega)
  have v3 := IntWalk.i64_in (t * d) (by omega)
  have v4 := IntWalk.i64_in (b * d) (by omega)
  have v5 := IntWalk.i64_in (s * b - t * d) (by omega)
  go_region_with (go_at_call 128; refine (aside_int HR.out ⟨⟨Aj, cj⟩, ⟨some ab, cb⟩, ⟨As, cs⟩, each⟩ P pc _ (by first | exact q1 | exact q2) (by first | exact r1 | exact r2) _ (by assumption)).mono ?_; rintro e w1 ⟨rfl, hb1⟩; (first | rw [k1.out, hs'.out] | rw [k0.out, ht'.out]); have l1 := Lies.call (by assumption) hb1; have x1 := Bk.call (by assumption) hb1; have bw := Below.step (w := w) (by assumption) hb1; obtain ⟨c0, c1, c2, c3, c4⟩ := x1.five)
  all_goals
    clear v1 v2 v3 v4 v5
    go_wp2_with fail
    go_ret2
    refine ⟨by rw [hv.out, hw.out]; rfl, ?_⟩
    repeat (first | assumption | refine Below.drew ?_)
end Go.Proofs.Ytmnlgeglmkdecaa
