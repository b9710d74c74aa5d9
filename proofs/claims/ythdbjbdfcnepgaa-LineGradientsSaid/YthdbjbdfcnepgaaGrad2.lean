/-
  The walks of GradientOf and BendAt.
-/
import Derived.Test.YthdbjbdfcnepgaaGrad
namespace Go.Proofs.Ythdbjbdfcnepgaa
open Go.RowKit

/-- A fraction in its box behind the line's; the line in memory. -/
structure QF (w W : World) (L : Ll) (H : Hds) : Prop where
  res : Bk W (w.heap.size + 1) 46 #[.int .i64 0, .int .i64 0]
  bl : Below w.heap.size w W
  ln : LnAt W W.heap.size L H
section
variable {w W W' : World} {L : Ll} {H : Hds}
theorem QF.call (h : QF w W L H) (hb : Below W.heap.size W W') : QF w W' L H := ⟨h.res.call hb, Below.step h.bl hb, (h.ln.below hb).more hb.size⟩
theorem QF.alloc (h : QF w W L H) (o : Obj) : QF w (W.alloc o) L H := h.call ((Below.refl _ W).alloc (Nat.le_refl _) o)
theorem QF.start (hA : LnAt w w.heap.size L H) : QF w ((w.alloc (.cells #[.string L.name, .slice H.j.A L.js.length H.j.c, .slice H.b.A L.bs.length H.b.c, .slice H.s.A L.ss.length H.s.c] 26)).alloc (.cells #[.int .i64 0, .int .i64 0] 46)) L H :=
  have b0 := ((Below.refl w.heap.size w).alloc (Nat.le_refl _) (.cells #[.string L.name, .slice H.j.A L.js.length H.j.c, .slice H.b.A L.bs.length H.b.c, .slice H.s.A L.ss.length H.s.c] 26)).alloc (by simp) (.cells #[.int .i64 0, .int .i64 0] 46)
  ⟨Bk.new1 w _ _ _, b0, (hA.below b0).more b0.size⟩
theorem QF.set2 (h : QF w W L H) (a b : Value) : Below w.heap.size w ((W.setCell ⟨w.heap.size + 1, 0, none⟩ a).setCell ⟨w.heap.size + 1, 1, none⟩ b) := (h.bl.setCell (by simp) _).setCell (by simp) _
end

set_option maxHeartbeats 1000000 in
theorem GradientOf_err {L : Ll} {m1 m2 er : Int} (hck : ckLine L = ((m1, m2), er)) (he : er ≠ 0) (H : Hds) (hL : L.ok) (n : Int) (w : World) (hA : LnAt w w.heap.size L H) :
    Calls Try.prog 38 #[(.agg #[.string L.name, .slice H.j.A L.js.length H.j.c, .slice H.b.A L.bs.length H.b.c, .slice H.s.A L.ss.length H.s.c]), .int .i64 n] w fun e w' => e = .returned (.tuple #[.agg #[.int .i64 0, .int .i64 0], .int .i64 er]) ∧ Below w.heap.size w w' := by
  have Q0 := Lib.hid (QF.start hA)
  have ge : (er != 0) = true := by simp [he]
  have HC := Lib.hid hck
  have HE := Lib.hid he
  clear hA hck he
  go_enter Try.func38, Try.ntmps38
  go_wp2_with fail
  refine (check_bad HC.out HE.out H hL _ Q0.out.ln).mono ?_
  rintro e w1 ⟨rfl, hb1⟩
  have Q1 := Lib.hid ((Q0.out.call hb1).alloc (.cells #[.string ⟨#[]⟩, .slice none 0 0, .slice none 0 0, .slice none 0 0, .slice none 0 0] 119))
  obtain ⟨d0, d1, f0, f1⟩ := Q1.out.res.two
  clear hb1 Q0
  go_wp2_with fail
  refine bodyPost_ret (v := .tuple #[.agg #[.int .i64 0, .int .i64 0], .int .i64 er]) (by simp [results, Try.results38, go_sem, d0, d1]) rfl ⟨rfl, ?_⟩
  exact QF.set2 Q1.out _ _

set_option maxHeartbeats 1000000 in
theorem BendAt_err {L : Ll} {m1 m2 er : Int} (hck : ckLine L = ((m1, m2), er)) (he : er ≠ 0) (H : Hds) (hL : L.ok) (n : Int) (w : World) (hA : LnAt w w.heap.size L H) :
    Calls Try.prog 40 #[(.agg #[.string L.name, .slice H.j.A L.js.length H.j.c, .slice H.b.A L.bs.length H.b.c, .slice H.s.A L.ss.length H.s.c]), .int .i64 n] w fun e w' => e = .returned (.tuple #[.agg #[.int .i64 0, .int .i64 0], .int .i64 er]) ∧ Below w.heap.size w w' := by
  have Q0 := Lib.hid (QF.start hA)
  have ge : (er != 0) = true := by simp [he]
  have HC := Lib.hid hck
  have HE := Lib.hid he
  clear hA hck he
  go_enter Try.func40, Try.ntmps40
  go_wp2_with fail
  refine (check_bad HC.out HE.out H hL _ Q0.out.ln).mono ?_
  rintro e w1 ⟨rfl, hb1⟩
  have Q1 := Lib.hid ((Q0.out.call hb1).alloc (.cells #[.string ⟨#[]⟩, .slice none 0 0, .slice none 0 0, .slice none 0 0, .slice none 0 0] 119))
  obtain ⟨d0, d1, f0, f1⟩ := Q1.out.res.two
  clear hb1 Q0
  go_wp2_with fail
  refine bodyPost_ret (v := .tuple #[.agg #[.int .i64 0, .int .i64 0], .int .i64 er]) (by simp [results, Try.results40, go_sem, d0, d1]) rfl ⟨rfl, ?_⟩
  exact QF.set2 Q1.out _ _

set_option maxHeartbeats 1000000 in
theorem GradientOf_miss {L : Ll} (hr : Right L) (hck : ckLine L = ((0, 0), 0)) (H : Hds) (hL : L.ok) (n : Int) (hn : inB n 0 ((L.bs.length : Int) - 1) = false) (w : World) (hA : LnAt w w.heap.size L H) :
    Calls Try.prog 38 #[(.agg #[.string L.name, .slice H.j.A L.js.length H.j.c, .slice H.b.A L.bs.length H.b.c, .slice H.s.A L.ss.length H.s.c]), .int .i64 n] w fun e w' => e = .returned (.tuple #[.agg #[.int .i64 0, .int .i64 0], .int .i64 6]) ∧ Below w.heap.size w w' := by
  have Q0 := Lib.hid (QF.start hA)
  have HC := Lib.hid hck
  have HR := Lib.hid hr
  have hnb := hL.nb
  have h0 : n < 0 ∨ (¬ n < 0 ∧ (L.bs.length : Int) ≤ n) := by
    unfold inB at hn
    simp at hn
    omega
  clear hA hck hr hn
  rcases h0 with h0 | ⟨h0, h1⟩
  all_goals
    go_enter Try.func38, Try.ntmps38
    go_wp2_with fail
    refine (check_good HR.out HC.out H hL _ Q0.out.ln).mono ?_
    rintro e w1 ⟨g, rfl, hb1, _, _⟩
    have Q1 := Lib.hid ((Q0.out.call hb1).alloc (.cells #[.string L.name, .slice H.j.A L.js.length H.j.c, .slice H.b.A L.bs.length H.b.c, .slice H.s.A L.ss.length H.s.c, .slice (some ⟨g, 0, none⟩) L.js.length L.js.length] 119))
    have C1 := Lib.hid (Bk.new w1 119 #[.string L.name, .slice H.j.A L.js.length H.j.c, .slice H.b.A L.bs.length H.b.c, .slice H.s.A L.ss.length H.s.c, .slice (some ⟨g, 0, none⟩) L.js.length L.js.length])
    obtain ⟨d0, d1, f0, f1⟩ := Q1.out.res.two
    clear hb1 Q0
    go_wp2_with fail
    refine bodyPost_ret (v := .tuple #[.agg #[.int .i64 0, .int .i64 0], .int .i64 6]) (by simp [results, Try.results38, go_sem, d0, d1]) rfl ⟨rfl, ?_⟩
    exact QF.set2 Q1.out _ _

set_option maxHeartbeats 1000000 in
theorem GradientOf_good {L : Ll} (hr : Right L) (hck : ckLine L = ((0, 0), 0)) (H : Hds) (hL : L.ok) (k : Nat) (hk : k < L.bs.length) {a b : Int} (hv : lowV (1000 * riseL L k) (lenL L k) = .agg #[.int .i64 a, .int .i64 b]) (w : World) (hA : LnAt w w.heap.size L H) :
    Calls Try.prog 38 #[(.agg #[.string L.name, .slice H.j.A L.js.length H.j.c, .slice H.b.A L.bs.length H.b.c, .slice H.s.A L.ss.length H.s.c]), .int .i64 k] w fun e w' => e = .returned (.tuple #[.agg #[.int .i64 a, .int .i64 b], .int .i64 0]) ∧ Below w.heap.size w w' := by
  have Q0 := Lib.hid (QF.start hA)
  have HC := Lib.hid hck
  have HR := Lib.hid hr
  have HV := Lib.hid hv
  have hnb := hL.nb
  have hk' : (k : Int) < (L.bs.length : Int) := by omega
  clear hA hck hr hv
  go_enter Try.func38, Try.ntmps38
  go_wp2_with fail
  refine (check_good HR.out HC.out H hL _ Q0.out.ln).mono ?_
  rintro e w1 ⟨g, rfl, hb1, _, _⟩
  have Q1 := Lib.hid ((Q0.out.call hb1).alloc (.cells #[.string L.name, .slice H.j.A L.js.length H.j.c, .slice H.b.A L.bs.length H.b.c, .slice H.s.A L.ss.length H.s.c, .slice (some ⟨g, 0, none⟩) L.js.length L.js.length] 119))
  have C1 := Lib.hid (Bk.new w1 119 #[.string L.name, .slice H.j.A L.js.length H.j.c, .slice H.b.A L.bs.length H.b.c, .slice H.s.A L.ss.length H.s.c, .slice (some ⟨g, 0, none⟩) L.js.length L.js.length])
  obtain ⟨d0, d1, f0, f1⟩ := Q1.out.res.two
  clear hb1 Q0
  obtain ⟨c0, c1, c2, c3, c4⟩ := C1.out.five
  go_wp2_with fail
  refine (gradient_at HR.out H ⟨g, 0, none⟩ L.js.length k hk HV.out _ Q1.out.ln).mono ?_
  rintro e w2 ⟨rfl, hb2⟩
  have Q2 := Lib.hid (Q1.out.call hb2)
  clear d0 d1 f0 f1
  obtain ⟨d0, d1, f0, f1⟩ := Q2.out.res.two
  clear hb2 Q1 c0 c1 c2 c3 c4
  go_wp2_with fail
  refine bodyPost_ret (v := .tuple #[.agg #[.int .i64 a, .int .i64 b], .int .i64 0]) (by simp [results, Try.results38, go_sem, d0, d1]) rfl ⟨rfl, ?_⟩
  exact QF.set2 Q2.out _ _

set_option maxHeartbeats 1000000 in
theorem BendAt_miss {L : Ll} (hr : Right L) (hck : ckLine L = ((0, 0), 0)) (H : Hds) (hL : L.ok) (n : Int) (hn : inB n 1 ((L.js.length : Int) - 2) = false) (w : World) (hA : LnAt w w.heap.size L H) :
    Calls Try.prog 40 #[(.agg #[.string L.name, .slice H.j.A L.js.length H.j.c, .slice H.b.A L.bs.length H.b.c, .slice H.s.A L.ss.length H.s.c]), .int .i64 n] w fun e w' => e = .returned (.tuple #[.agg #[.int .i64 0, .int .i64 0], .int .i64 6]) ∧ Below w.heap.size w w' := by
  have Q0 := Lib.hid (QF.start hA)
  have HC := Lib.hid hck
  have HR := Lib.hid hr
  have HN := Lib.hid hn
  have hnj := hL.nj
  clear hA hck hr hn
  go_enter Try.func40, Try.ntmps40
  go_wp2_with fail
  refine (check_good HR.out HC.out H hL _ Q0.out.ln).mono ?_
  rintro e w1 ⟨g, rfl, hb1, _, _⟩
  have Q1 := Lib.hid ((Q0.out.call hb1).alloc (.cells #[.string L.name, .slice H.j.A L.js.length H.j.c, .slice H.b.A L.bs.length H.b.c, .slice H.s.A L.ss.length H.s.c, .slice (some ⟨g, 0, none⟩) L.js.length L.js.length] 119))
  have C1 := Lib.hid (Bk.new w1 119 #[.string L.name, .slice H.j.A L.js.length H.j.c, .slice H.b.A L.bs.length H.b.c, .slice H.s.A L.ss.length H.s.c, .slice (some ⟨g, 0, none⟩) L.js.length L.js.length])
  obtain ⟨d0, d1, f0, f1⟩ := Q1.out.res.two
  clear hb1 Q0
  obtain ⟨c0, c1, c2, c3, c4⟩ := C1.out.five
  go_wp2_with fail
  refine (isInner_any hnj H ⟨g, 0, none⟩ _ n _).mono ?_
  rintro e w2 ⟨rfl, hb2⟩
  rw [HN.out]
  have Q2 := Lib.hid (Q1.out.call hb2)
  clear d0 d1 f0 f1
  obtain ⟨d0, d1, f0, f1⟩ := Q2.out.res.two
  clear hb2 Q1 c0 c1 c2 c3 c4
  go_wp2_with fail
  refine bodyPost_ret (v := .tuple #[.agg #[.int .i64 0, .int .i64 0], .int .i64 6]) (by simp [results, Try.results40, go_sem, d0, d1]) rfl ⟨rfl, ?_⟩
  exact QF.set2 Q2.out _ _

theorem size_at {x s : Int} (h : max x (-x) = s) (h0 : -9223372036854775807 ≤ x) (h1 : x ≤ 9223372036854775807) (w : World) : Calls Try.prog 95 #[.int .i64 x] w fun e w' => e = .returned (.int .i64 s) ∧ w = w' := by
  subst h
  exact size_any x h0 h1 w
theorem turn_at {L : Ll} (hr : Right L) (H : Hds) (P : Addr) (pc : Nat) (k : Nat) (hk : k + 1 < L.bs.length) {t d : Int} (ht : turnL L (k + 1) = t) (hd : lenL L k * lenL L (k + 1) = d) (w : World) (hA : LnAt w w.heap.size L H) :
    Calls Try.prog 98 #[(.agg #[.string L.name, .slice H.j.A L.js.length H.j.c, .slice H.b.A L.bs.length H.b.c, .slice H.s.A L.ss.length H.s.c, .slice (some P) L.js.length pc]), .int .i64 ((k : Int) + 1)] w fun e w' => e = .returned (.tuple #[.int .i64 t, .int .i64 d]) ∧ Below w.heap.size w w' := by
  subst ht hd
  exact turn_any hr H P pc k hk w hA
theorem turnL_bound {L : Ll} (hr : Right L) {k : Nat} (hk : k + 1 < L.bs.length) : (-2400000000 ≤ turnL L (k + 1) ∧ turnL L (k + 1) ≤ 2400000000) ∧ (1000000 ≤ lenL L k * lenL L (k + 1) ∧ lenL L k * lenL L (k + 1) ≤ 900000000) := by
  obtain ⟨p1, p2⟩ := lenL_in hr (show k < L.bs.length by omega)
  obtain ⟨p3, p4⟩ := lenL_in hr hk
  obtain ⟨s1, s2⟩ := asideL_bound hr hk
  obtain ⟨s3, s4⟩ := asideL_bound hr (show k < L.bs.length by omega)
  obtain ⟨m1, m2⟩ := mul_bound s1 s2 (by omega) p2
  obtain ⟨m3, m4⟩ := mul_bound s3 s4 (by omega) p4
  obtain ⟨m5, m6⟩ := mul_bound (A := 30000) (by omega) p2 (by omega) p4
  have m7 : (1000 : Int) * 1000 ≤ lenL L k * lenL L (k + 1) := Int.mul_le_mul p1 p3 (by omega) (by omega)
  unfold turnL
  rw [Nat.add_sub_cancel]
  omega
/-- What BendAt comes to, of the fraction's parts. -/
def bendA (a b : Int) : Value := if smallB a b then .tuple #[.agg #[.int .i64 a, .int .i64 b], .int .i64 0] else .tuple #[.agg #[.int .i64 0, .int .i64 0], .int .i64 8]

set_option maxHeartbeats 2000000 in
theorem BendAt_good {L : Ll} (hr : Right L) (hck : ckLine L = ((0, 0), 0)) (H : Hds) (hL : L.ok) (k : Nat) (hk : k + 1 < L.bs.length) {a b : Int} (hv : lowV (1000 * turnL L (k + 1)) (lenL L k * lenL L (k + 1)) = .agg #[.int .i64 a, .int .i64 b]) (w : World) (hA : LnAt w w.heap.size L H) :
    Calls Try.prog 40 #[(.agg #[.string L.name, .slice H.j.A L.js.length H.j.c, .slice H.b.A L.bs.length H.b.c, .slice H.s.A L.ss.length H.s.c]), .int .i64 ((k : Int) + 1)] w fun e w' => e = .returned (bendA a b) ∧ Below w.heap.size w w' := by
  have Q0 := Lib.hid (QF.start hA)
  have HC := Lib.hid hck
  have HR := Lib.hid hr
  have HI := Lib.hid (show inB ((k : Int) + 1) 1 ((L.js.length : Int) - 2) = true from inB_iff.2 ⟨by omega, by have := hr.jb; omega⟩)
  obtain ⟨⟨q1, q2⟩, q3, q4⟩ := turnL_bound hr hk
  have hn := low_num (n := 1000 * turnL L (k + 1)) (d := lenL L k * lenL L (k + 1)) (by omega)
  have hdn := low_den (n := 1000 * turnL L (k + 1)) (d := lenL L k * lenL L (k + 1)) (by omega)
  have hvv := hv
  unfold lowV at hvv
  simp only [Value.agg.injEq, Array.mk.injEq, List.cons.injEq, Value.int.injEq, true_and, and_true] at hvv
  rw [hvv.1] at hn
  rw [hvv.2] at hdn
  obtain ⟨t, ht⟩ : ∃ t, turnL L (k + 1) = t := ⟨_, rfl⟩
  obtain ⟨d, hd⟩ : ∃ d, lenL L k * lenL L (k + 1) = d := ⟨_, rfl⟩
  rw [ht] at q1 q2 hv hn
  rw [hd] at q3 q4 hv hdn
  have HV := Lib.hid hv
  have HT := Lib.hid ht
  have HD := Lib.hid hd
  obtain ⟨s, hs⟩ : ∃ s, max a (-a) = s := ⟨_, rfl⟩
  have HS := Lib.hid hs
  have b1 := hdn.1
  have b2 : b ≤ 900000000 := by omega
  have a1 : -9223372036854775807 ≤ a := by omega
  have a2 : a ≤ 9223372036854775807 := by omega
  have hnj := hL.nj
  have t1 := IntWalk.i64_in (1000 * t) (by omega)
  have hB : ¬ 1000000000 < b := by omega
  by_cases h1 : 1000000000 < s
  · have HW := Lib.hid (show bendA a b = .tuple #[.agg #[.int .i64 0, .int .i64 0], .int .i64 8] by
      unfold bendA smallB
      rw [if_neg]
      simp only [Bool.and_eq_true, inB_iff]
      omega)
    clear hv hvv ht hd hs hA hck hr hn hdn
    go_enter Try.func40, Try.ntmps40
    go_wp2_with fail
    refine (check_good HR.out HC.out H hL _ Q0.out.ln).mono ?_
    rintro e w1 ⟨g, rfl, hb1, _, _⟩
    have Q1 := Lib.hid ((Q0.out.call hb1).alloc (.cells #[.string L.name, .slice H.j.A L.js.length H.j.c, .slice H.b.A L.bs.length H.b.c, .slice H.s.A L.ss.length H.s.c, .slice (some ⟨g, 0, none⟩) L.js.length L.js.length] 119))
    have C1 := Lib.hid (Bk.new w1 119 #[.string L.name, .slice H.j.A L.js.length H.j.c, .slice H.b.A L.bs.length H.b.c, .slice H.s.A L.ss.length H.s.c, .slice (some ⟨g, 0, none⟩) L.js.length L.js.length])
    obtain ⟨d0, d1, f0, f1⟩ := Q1.out.res.two
    clear hb1 Q0
    obtain ⟨c0, c1, c2, c3, c4⟩ := C1.out.five
    go_wp2_with fail
    refine (isInner_any hnj H ⟨g, 0, none⟩ _ _ _).mono ?_
    rintro e w2 ⟨rfl, hb2⟩
    rw [HI.out]
    have Q2 := Lib.hid (Q1.out.call hb2)
    have C2 := Lib.hid (C1.out.call hb2)
    clear c0 c1 c2 c3 c4 d0 d1 f0 f1 hb2 Q1 C1
    obtain ⟨c0, c1, c2, c3, c4⟩ := C2.out.five
    go_wp2_with fail
    refine (turn_at HR.out H ⟨g, 0, none⟩ _ k hk HT.out HD.out _ Q2.out.ln).mono ?_
    rintro e w3 ⟨rfl, hb3⟩
    have Q3 := Lib.hid (Q2.out.call hb3)
    clear c0 c1 c2 c3 c4 hb3 Q2 C2
    go_wp2_with fail
    refine (fraction_at HV.out (by omega) (by omega) (by omega) (by omega) _).mono ?_
    rintro e w4 ⟨rfl, hb4⟩
    have Q4 := Lib.hid ((Q3.out.call hb4).alloc (.cells #[.int .i64 a, .int .i64 b] 46))
    obtain ⟨d0, d1, f0, f1⟩ := Q4.out.res.two
    clear hb4 Q3
    go_wp2_with (go_at_call 95; refine (size_at HS.out a1 a2 _).mono ?_; rintro e w' ⟨rfl, rfl⟩)
    refine bodyPost_ret (v := .tuple #[.agg #[.int .i64 0, .int .i64 0], .int .i64 8]) (by simp [results, Try.results40, go_sem, d0, d1]) rfl ⟨by rw [HW.out], ?_⟩
    exact QF.set2 Q4.out _ _
  · have HW := Lib.hid (show bendA a b = .tuple #[.agg #[.int .i64 a, .int .i64 b], .int .i64 0] by
      unfold bendA smallB
      rw [if_pos]
      simp only [Bool.and_eq_true, inB_iff]
      omega)
    clear hv hvv ht hd hs hA hck hr hn hdn
    go_enter Try.func40, Try.ntmps40
    go_wp2_with fail
    refine (check_good HR.out HC.out H hL _ Q0.out.ln).mono ?_
    rintro e w1 ⟨g, rfl, hb1, _, _⟩
    have Q1 := Lib.hid ((Q0.out.call hb1).alloc (.cells #[.string L.name, .slice H.j.A L.js.length H.j.c, .slice H.b.A L.bs.length H.b.c, .slice H.s.A L.ss.length H.s.c, .slice (some ⟨g, 0, none⟩) L.js.length L.js.length] 119))
    have C1 := Lib.hid (Bk.new w1 119 #[.string L.name, .slice H.j.A L.js.length H.j.c, .slice H.b.A L.bs.length H.b.c, .slice H.s.A L.ss.length H.s.c, .slice (some ⟨g, 0, none⟩) L.js.length L.js.length])
    obtain ⟨d0, d1, f0, f1⟩ := Q1.out.res.two
    clear hb1 Q0
    obtain ⟨c0, c1, c2, c3, c4⟩ := C1.out.five
    go_wp2_with fail
    refine (isInner_any hnj H ⟨g, 0, none⟩ _ _ _).mono ?_
    rintro e w2 ⟨rfl, hb2⟩
    rw [HI.out]
    have Q2 := Lib.hid (Q1.out.call hb2)
    have C2 := Lib.hid (C1.out.call hb2)
    clear c0 c1 c2 c3 c4 d0 d1 f0 f1 hb2 Q1 C1
    obtain ⟨c0, c1, c2, c3, c4⟩ := C2.out.five
    go_wp2_with fail
    refine (turn_at HR.out H ⟨g, 0, none⟩ _ k hk HT.out HD.out _ Q2.out.ln).mono ?_
    rintro e w3 ⟨rfl, hb3⟩
    have Q3 := Lib.hid (Q2.out.call hb3)
    clear c0 c1 c2 c3 c4 hb3 Q2 C2
    go_wp2_with fail
    refine (fraction_at HV.out (by omega) (by omega) (by omega) (by omega) _).mono ?_
    rintro e w4 ⟨rfl, hb4⟩
    have Q4 := Lib.hid ((Q3.out.call hb4).alloc (.cells #[.int .i64 a, .int .i64 b] 46))
    obtain ⟨d0, d1, f0, f1⟩ := Q4.out.res.two
    clear hb4 Q3
    go_wp2_with (go_at_call 95; refine (size_at HS.out a1 a2 _).mono ?_; rintro e w' ⟨rfl, rfl⟩)
    refine bodyPost_ret (v := .tuple #[.agg #[.int .i64 a, .int .i64 b], .int .i64 0]) (by simp [results, Try.results40, go_sem, d0, d1]) rfl ⟨by rw [HW.out], ?_⟩
    exact QF.set2 Q4.out _ _
end Go.Proofs.Ythdbjbdfcnepgaa
