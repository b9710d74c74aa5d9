/-
  The steepest beam: plain facts; the walk of SteepestOf.
-/
import Derived.Test.YthdbjbdfcnepgaaRefGr
namespace Go.Proofs.Ythdbjbdfcnepgaa
open Go.RowKit

/-- The size of a beam's rise. -/
def absR (L : Ll) (k : Nat) : Int := max (riseL L k) (-(riseL L k))
/-- The steepest of the first beams. -/
def steepN (L : Ll) : Nat → Nat
  | 0 => 0
  | k + 1 => if absR L (steepN L k) * lenL L (k + 1) < absR L (k + 1) * lenL L (steepN L k) then k + 1 else steepN L k
theorem steepN_le (L : Ll) : ∀ k, steepN L k ≤ k
  | 0 => Nat.le_refl _
  | k + 1 => by
    rw [steepN]
    split
    · exact Nat.le_refl _
    · exact Nat.le_succ_of_le (steepN_le L k)
/-- A round of the loops that look for it. -/
theorem steepN_yes {L : Ll} {k : Nat} (h : absR L (steepN L (k - 1)) * lenL L k < absR L k * lenL L (steepN L (k - 1))) : steepN L k = k := by
  cases k with
  | zero => rfl
  | succ k => rw [Nat.add_sub_cancel] at h; rw [steepN, if_pos h]
theorem steepN_no {L : Ll} {k : Nat} (h : ¬ absR L (steepN L (k - 1)) * lenL L k < absR L k * lenL L (steepN L (k - 1))) : steepN L k = steepN L (k - 1) := by
  cases k with
  | zero => rfl
  | succ k => rw [Nat.add_sub_cancel] at h ⊢; rw [steepN, if_neg h]
theorem absR_bound {L : Ll} (hr : Right L) {k : Nat} (hk : k < L.bs.length) : 0 ≤ absR L k ∧ absR L k ≤ 40000 := by
  have := riseL_bound hr hk
  unfold absR
  omega

/-- Sizes of fractions in lowest terms compare as those of the fractions. -/
theorem low_cmp {n d n' d' a b a' b' : Int} (hd : 1 ≤ d) (hd' : 1 ≤ d') (h : lowV n d = .agg #[.int .i64 a, .int .i64 b]) (h' : lowV n' d' = .agg #[.int .i64 a', .int .i64 b']) :
    max a' (-a') * b < max a (-a) * b' ↔ max n' (-n') * d < max n (-n) * d' := by
  unfold lowV at h h'
  simp only [Value.agg.injEq, Array.mk.injEq, List.cons.injEq, Value.int.injEq, true_and, and_true] at h h'
  obtain ⟨g, x, y, _, h1, hn, hb, _, e1, e2, _⟩ := low_parts (n := n) hd
  obtain ⟨g', x', y', _, h1', hn', hb', _, e1', e2', _⟩ := low_parts (n := n') hd'
  rw [e1, e2] at h
  rw [e1', e2'] at h'
  obtain ⟨rfl, rfl⟩ := h
  obtain ⟨rfl, rfl⟩ := h'
  have m : ∀ q z : Int, 1 ≤ q → max (q * z) (-(q * z)) = q * max z (-z) := fun q z hq => by
    rw [← Int.mul_neg]
    by_cases hz : -z ≤ z
    · rw [show max z (-z) = z by omega]
      have := Int.mul_le_mul_of_nonneg_left hz (show 0 ≤ q by omega)
      omega
    · rw [show max z (-z) = -z by omega]
      have := Int.mul_le_mul_of_nonneg_left (show z ≤ -z by omega) (show 0 ≤ q by omega)
      omega
  rw [hn, hn', hb, hb', m g x h1, m g' x' h1']
  have e1 : g' * max x' (-x') * (g * y) = (g * g') * (max x' (-x') * y) := by
    rw [Int.mul_comm g g', Int.mul_assoc, Int.mul_assoc, Int.mul_left_comm (max x' (-x'))]
  have e2 : g * max x (-x) * (g' * y') = (g * g') * (max x (-x) * y') := by
    rw [Int.mul_assoc, Int.mul_assoc, Int.mul_left_comm (max x (-x))]
  rw [e1, e2]
  have hp : 0 < g * g' := Int.mul_pos (by omega) (by omega)
  constructor
  · exact fun h => Int.mul_lt_mul_of_pos_left h hp
  · exact fun h => Int.lt_of_mul_lt_mul_left h (by omega)

set_option maxHeartbeats 1000000 in
theorem SteepestOf_err {L : Ll} {m1 m2 er : Int} (hck : ckLine L = ((m1, m2), er)) (he : er ≠ 0) (H : Hds) (hL : L.ok) (w : World) (hA : LnAt w w.heap.size L H) :
    Calls Try.prog 39 #[(.agg #[.string L.name, .slice H.j.A L.js.length H.j.c, .slice H.b.A L.bs.length H.b.c, .slice H.s.A L.ss.length H.s.c])] w fun e w' => e = .returned (.tuple #[.int .i64 0, .agg #[.int .i64 0, .int .i64 0], .int .i64 er]) ∧ Below w.heap.size w w' := by
  have Q0 := Lib.hid (QF.start hA)
  have ge : (er != 0) = true := by simp [he]
  have HC := Lib.hid hck
  have HE := Lib.hid he
  clear hA hck he
  go_enter Try.func39, Try.ntmps39
  go_wp2_with fail
  refine (check_bad HC.out HE.out H hL _ Q0.out.ln).mono ?_
  rintro e w1 ⟨rfl, hb1⟩
  have Q1 := Lib.hid ((Q0.out.call hb1).alloc (.cells #[.string ⟨#[]⟩, .slice none 0 0, .slice none 0 0, .slice none 0 0, .slice none 0 0] 119))
  obtain ⟨d0, d1, f0, f1⟩ := Q1.out.res.two
  clear hb1 Q0
  go_wp2_with fail
  refine bodyPost_ret (v := .tuple #[.int .i64 0, .agg #[.int .i64 0, .int .i64 0], .int .i64 er]) (by simp [results, Try.results39, go_sem, d0, d1]) rfl ⟨rfl, ?_⟩
  exact QF.set2 Q1.out _ _

/-- In the loop: the checked line in its box. -/
structure SF (w W : World) (L : Ll) (H : Hds) (g c : Nat) : Prop where
  q : QF w W L H
  c : Bk W c 119 #[.string L.name, .slice H.j.A L.js.length H.j.c, .slice H.b.A L.bs.length H.b.c, .slice H.s.A L.ss.length H.s.c, .slice (some ⟨g, 0, none⟩) L.js.length L.js.length]
section
variable {w W W' : World} {L : Ll} {H : Hds} {g c : Nat}
theorem SF.call (h : SF w W L H g c) (hb : Below W.heap.size W W') : SF w W' L H g c := ⟨h.q.call hb, h.c.call hb⟩
theorem SF.drew (h : SF w W L H g c) : SF w W.drew L H g c := ⟨h.q.drew, h.c⟩
end

set_option maxHeartbeats 4000000 in
set_option maxRecDepth 100000 in
theorem SteepestOf_good {L : Ll} (hr : Right L) (hck : ckLine L = ((0, 0), 0)) (H : Hds) (hL : L.ok) {st : Nat} (hst : steepN L (L.bs.length - 1) = st) {a b : Int} (hv : lowV (1000 * riseL L st) (lenL L st) = .agg #[.int .i64 a, .int .i64 b]) (w : World) (hA : LnAt w w.heap.size L H) :
    Calls Try.prog 39 #[(.agg #[.string L.name, .slice H.j.A L.js.length H.j.c, .slice H.b.A L.bs.length H.b.c, .slice H.s.A L.ss.length H.s.c])] w fun e w' => e = .returned (.tuple #[.int .i64 st, .agg #[.int .i64 a, .int .i64 b], .int .i64 0]) ∧ Below w.heap.size w w' := by
  obtain ⟨ab, hab⟩ : ∃ a, H.b.A = some a := by obtain ⟨a, h, _⟩ := hA.b.beam (List.getElem?_eq_getElem (show 0 < L.bs.length by have := hr.one; omega)); exact ⟨a, h⟩
  obtain ⟨⟨Aj, cj⟩, ⟨Ab, cb⟩, ⟨As, cs⟩, each⟩ := H
  obtain rfl : Ab = some ab := hab
  have Q0 := Lib.hid (QF.start hA)
  have HC := Lib.hid hck
  have HR := Lib.hid hr
  have HV := Lib.hid hv
  have HST := Lib.hid hst
  have hnb := hL.nb
  have hone := hr.one
  have hmost := hr.most
  clear hA hck hr hv hst
  go_enter Try.func39, Try.ntmps39
  go_wp2_with fail
  refine (check_good HR.out HC.out ⟨⟨Aj, cj⟩, ⟨some ab, cb⟩, ⟨As, cs⟩, each⟩ hL _ Q0.out.ln).mono ?_
  rintro e w1 ⟨g, rfl, hb1, _, _⟩
  have Q1 := Lib.hid ((Q0.out.call hb1).alloc (.cells #[.string L.name, .slice Aj L.js.length cj, .slice (some ab) L.bs.length cb, .slice As L.ss.length cs, .slice (some ⟨g, 0, none⟩) L.js.length L.js.length] 119))
  have C1 := Lib.hid (Bk.new w1 119 #[.string L.name, .slice Aj L.js.length cj, .slice (some ab) L.bs.length cb, .slice As L.ss.length cs, .slice (some ⟨g, 0, none⟩) L.js.length L.js.length])
  obtain ⟨c0, c1, c2, c3, c4⟩ := C1.out.five
  clear hb1 Q0
  go_wp2_with fail
  have S0 : Hid (SF w (w1.alloc (.cells #[.string L.name, .slice Aj L.js.length cj, .slice (some ab) L.bs.length cb, .slice As L.ss.length cs, .slice (some ⟨g, 0, none⟩) L.js.length L.js.length] 119)) L ⟨⟨Aj, cj⟩, ⟨some ab, cb⟩, ⟨As, cs⟩, each⟩ g w1.heap.size) := Lib.hid ⟨Q1.out, C1.out⟩
  clear Q1 C1 c0 c1 c2 c3 c4
  generalize w1.heap.size = c at *
  go_loopw [7, 22] (fun s i wr => ∃ k : Nat, k ≤ L.bs.length ∧ i = .int .i64 k ∧ s = .int .i64 (steepN L (k - 1)) ∧ SF w wr L ⟨⟨Aj, cj⟩, ⟨some ab, cb⟩, ⟨As, cs⟩, each⟩ g c) (fun _ i _ => L.bs.length - (intOf i).toNat)
  case atStart => exact ⟨0, Nat.zero_le _, rfl, rfl, S0.out⟩
  case round =>
    clear S0
    obtain ⟨k, hk, rfl, rfl, hS⟩ := hrel
    have S1 := Lib.hid hS
    clear hS
    have hsl := steepN_le L (k - 1)
    by_cases hlt : k < L.bs.length
    · have hsb : steepN L (k - 1) < L.bs.length := by omega
      have ha1 := absR_bound HR.out hlt
      have ha2 := absR_bound HR.out hsb
      have hl1 := lenL_in HR.out hlt
      have hl2 := lenL_in HR.out hsb
      have rb1 := riseL_bound HR.out hlt
      have rb2 := riseL_bound HR.out hsb
      have hB1 := Lib.hid (List.getElem?_eq_getElem hlt)
      have hB2 := Lib.hid (List.getElem?_eq_getElem hsb)
      have hk' : (k : Int) < (L.bs.length : Int) := by omega
      have hs' : (steepN L (k - 1) : Int) < (L.bs.length : Int) := by omega
      have key : ∀ x y : Int, (absR L (steepN L (k - 1)) * lenL L k = x) → (absR L k * lenL L (steepN L (k - 1)) = y) → (x < y → steepN L k = k) ∧ (¬ x < y → steepN L k = steepN L (k - 1)) := fun x y hx hy => by
        subst hx hy
        exact ⟨steepN_yes, steepN_no⟩
      obtain ⟨m1, m2⟩ := mul_bound (A := 40000) (by omega) ha2.2 (by omega) hl1.2
      obtain ⟨m3, m4⟩ := mul_bound (A := 40000) (by omega) ha1.2 (by omega) hl2.2
      rw [lenL_eq hlt] at key m1 m2
      rw [lenL_eq hsb] at key m3 m4
      unfold absR at key m1 m2 m3 m4
      generalize L.bs[k] = B1 at *
      generalize L.bs[steepN L (k - 1)] = B2 at *
      obtain ⟨s, hs⟩ : ∃ s, steepN L (k - 1) = s := ⟨_, rfl⟩
      rw [hs] at key m1 m2 hB2 hsb hs' rb2
      simp only [hs]
      obtain ⟨r1, hr1⟩ : ∃ r, riseL L k = r := ⟨_, rfl⟩
      obtain ⟨r2, hr2⟩ : ∃ r, riseL L s = r := ⟨_, rfl⟩
      rw [hr1] at key m3 m4 rb1
      rw [hr2] at key m1 m2 rb2
      obtain ⟨z1, hz1⟩ : ∃ z, max r1 (-r1) = z := ⟨_, rfl⟩
      obtain ⟨z2, hz2⟩ : ∃ z, max r2 (-r2) = z := ⟨_, rfl⟩
      rw [hz1] at key m3 m4
      rw [hz2] at key m1 m2
      have HS := Lib.hid hs
      have HR1 := Lib.hid hr1
      have HR2 := Lib.hid hr2
      have HZ1 := Lib.hid hz1
      have HZ2 := Lib.hid hz2
      have KEY := Lib.hid (key _ _ rfl rfl)
      have e11 : -9223372036854775807 ≤ r1 := by omega
      have e12 : r1 ≤ 9223372036854775807 := by omega
      have e21 : -9223372036854775807 ≤ r2 := by omega
      have e22 : r2 ≤ 9223372036854775807 := by omega
      have t1 := IntWalk.i64_in (z2 * B1.len) (by omega)
      have t2 := IntWalk.i64_in (z1 * B2.len) (by omega)
      clear key hs hr1 hr2 hz1 hz2 ha1 ha2 hl1 hl2 rb1 rb2 m1 m2 m3 m4
      obtain ⟨c0, c1, c2, c3, c4⟩ := S1.out.c.five
      have NA : Hid (∀ W : World, SF w W L ⟨⟨Aj, cj⟩, ⟨some ab, cb⟩, ⟨As, cs⟩, each⟩ g c → SF w W L ⟨⟨Aj, cj⟩, ⟨some ab, cb⟩, ⟨As, cs⟩, each⟩ g c ∧ W.cell? ⟨c, 0, none⟩ = some (.string L.name) ∧ W.cell? ⟨c, 1, none⟩ = some (.slice Aj L.js.length cj) ∧ W.cell? ⟨c, 2, none⟩ = some (.slice (some ab) L.bs.length cb) ∧ W.cell? ⟨c, 3, none⟩ = some (.slice As L.ss.length cs) ∧ W.cell? ⟨c, 4, none⟩ = some (.slice (some ⟨g, 0, none⟩) L.js.length L.js.length) ∧ W.cell? (ab.add (k * 2)) = some (.int .i64 B1.len) ∧ W.cell? (ab.add (s * 2)) = some (.int .i64 B2.len)) := Lib.hid (fun W h => by
        obtain ⟨a1, e1, _, y1, _⟩ := h.q.ln.b.beam hB1.out
        obtain ⟨a2, e2, _, y2, _⟩ := h.q.ln.b.beam hB2.out
        obtain rfl : ab = a1 := Option.some.inj e1
        obtain rfl : ab = a2 := Option.some.inj e2
        exact ⟨h, h.c.cell 0, h.c.cell 1, h.c.cell 2, h.c.cell 3, h.c.cell 4, y1, y2⟩)
      by_cases hgt : z2 * B1.len < z1 * B2.len
      · go_wp2_with fail
        go_region_held3 (fun w' => SF w w' L ⟨⟨Aj, cj⟩, ⟨some ab, cb⟩, ⟨As, cs⟩, each⟩ g c ∧ w'.cell? ⟨c, 0, none⟩ = some (.string L.name) ∧ w'.cell? ⟨c, 1, none⟩ = some (.slice Aj L.js.length cj) ∧ w'.cell? ⟨c, 2, none⟩ = some (.slice (some ab) L.bs.length cb) ∧ w'.cell? ⟨c, 3, none⟩ = some (.slice As L.ss.length cs) ∧ w'.cell? ⟨c, 4, none⟩ = some (.slice (some ⟨g, 0, none⟩) L.js.length L.js.length) ∧ w'.cell? (ab.add (k * 2)) = some (.int .i64 B1.len) ∧ w'.cell? (ab.add (s * 2)) = some (.int .i64 B2.len)) ((first | exact NA.out _ (SF.call (by assumption) (by assumption)) | exact NA.out _ S1.out.drew | exact NA.out _ (by assumption) | fail "keep"))
          ((first | (go_at_call 96; go_split_ands; with_reducible refine (rise_at HR.out ⟨⟨Aj, cj⟩, ⟨some ab, cb⟩, ⟨As, cs⟩, each⟩ ⟨g, 0, none⟩ L.js.length k hlt HR1.out _ (SF.q (by assumption)).ln.j).mono ?_; rintro e w' ⟨rfl, hb⟩) | (go_at_call 96; go_split_ands; with_reducible refine (rise_at HR.out ⟨⟨Aj, cj⟩, ⟨some ab, cb⟩, ⟨As, cs⟩, each⟩ ⟨g, 0, none⟩ L.js.length s hsb HR2.out _ (SF.q (by assumption)).ln.j).mono ?_; rintro e w' ⟨rfl, hb⟩) | (go_at_call 95; go_split_ands; with_reducible refine (size_at HZ1.out e11 e12 _).mono ?_; rintro e w' ⟨rfl, rfl⟩) | (go_at_call 95; go_split_ands; with_reducible refine (size_at HZ2.out e21 e22 _).mono ?_; rintro e w' ⟨rfl, rfl⟩) | fail "arm"))
        all_goals
          go_split_ands
          go_wp2_with fail
          go_roundw
          case rel => exact ⟨k + 1, by omega, by go_num, by rw [Nat.add_sub_cancel, KEY.out.1 hgt], by assumption⟩
          case measure => simp [intOf]; omega
      · go_wp2_with fail
        go_region_held3 (fun w' => SF w w' L ⟨⟨Aj, cj⟩, ⟨some ab, cb⟩, ⟨As, cs⟩, each⟩ g c ∧ w'.cell? ⟨c, 0, none⟩ = some (.string L.name) ∧ w'.cell? ⟨c, 1, none⟩ = some (.slice Aj L.js.length cj) ∧ w'.cell? ⟨c, 2, none⟩ = some (.slice (some ab) L.bs.length cb) ∧ w'.cell? ⟨c, 3, none⟩ = some (.slice As L.ss.length cs) ∧ w'.cell? ⟨c, 4, none⟩ = some (.slice (some ⟨g, 0, none⟩) L.js.length L.js.length) ∧ w'.cell? (ab.add (k * 2)) = some (.int .i64 B1.len) ∧ w'.cell? (ab.add (s * 2)) = some (.int .i64 B2.len)) ((first | exact NA.out _ (SF.call (by assumption) (by assumption)) | exact NA.out _ S1.out.drew | exact NA.out _ (by assumption) | fail "keep"))
          ((first | (go_at_call 96; go_split_ands; with_reducible refine (rise_at HR.out ⟨⟨Aj, cj⟩, ⟨some ab, cb⟩, ⟨As, cs⟩, each⟩ ⟨g, 0, none⟩ L.js.length k hlt HR1.out _ (SF.q (by assumption)).ln.j).mono ?_; rintro e w' ⟨rfl, hb⟩) | (go_at_call 96; go_split_ands; with_reducible refine (rise_at HR.out ⟨⟨Aj, cj⟩, ⟨some ab, cb⟩, ⟨As, cs⟩, each⟩ ⟨g, 0, none⟩ L.js.length s hsb HR2.out _ (SF.q (by assumption)).ln.j).mono ?_; rintro e w' ⟨rfl, hb⟩) | (go_at_call 95; go_split_ands; with_reducible refine (size_at HZ1.out e11 e12 _).mono ?_; rintro e w' ⟨rfl, rfl⟩) | (go_at_call 95; go_split_ands; with_reducible refine (size_at HZ2.out e21 e22 _).mono ?_; rintro e w' ⟨rfl, rfl⟩) | fail "arm"))
        all_goals
          go_split_ands
          go_wp2_with fail
          go_roundw
          case rel => exact ⟨k + 1, by omega, by go_num, by rw [Nat.add_sub_cancel, KEY.out.2 hgt], by assumption⟩
          case measure => simp [intOf]; omega
    · obtain rfl : k = L.bs.length := by omega
      clear hlt
      obtain ⟨c0, c1, c2, c3, c4⟩ := S1.out.c.five
      have hs3 : st < L.bs.length := by have := HST.out; omega
      have hs4 : (st : Int) < (L.bs.length : Int) := by omega
      rw [HST.out]
      go_wp2_with fail
      refine (gradient_at HR.out ⟨⟨Aj, cj⟩, ⟨some ab, cb⟩, ⟨As, cs⟩, each⟩ ⟨g, 0, none⟩ L.js.length st hs3 HV.out _ S1.out.q.ln).mono ?_
      rintro e w2 ⟨rfl, hb2⟩
      have Q2 := Lib.hid (S1.out.q.call hb2)
      obtain ⟨d0, d1, f0, f1⟩ := Q2.out.res.two
      clear hb2 c0 c1 c2 c3 c4 S1
      go_wp2_with fail
      refine bodyPost_ret (v := .tuple #[.int .i64 st, .agg #[.int .i64 a, .int .i64 b], .int .i64 0]) (by simp [results, Try.results39, go_sem, d0, d1]) rfl ⟨rfl, ?_⟩
      exact QF.set2 Q2.out _ _
end Go.Proofs.Ythdbjbdfcnepgaa
