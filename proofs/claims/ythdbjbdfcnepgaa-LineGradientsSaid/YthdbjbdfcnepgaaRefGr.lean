/-
  The walks of the reference's gradients and bends.
-/
import Derived.Test.YthdbjbdfcnepgaaGrad2
import Derived.StillTailTactics
namespace Go.Proofs.Ythdbjbdfcnepgaa
open Go.RowKit

theorem QF.drew {w W : World} {L : Ll} {H : Hds} (h : QF w W L H) : QF w W.drew L H := ⟨h.res, h.bl.drew, h.ln.keep (fun _ _ => rfl)⟩

set_option maxHeartbeats 400000 in
theorem BeamErr_at {L : Ll} (hn : L.bs.length ≤ 1000) (H : Hds) (j er : Int) (he : (if inB j 0 ((L.bs.length : Int) - 1) then (0 : Int) else 6) = er) (w : World) :
    Calls Try.prog 42 #[(.agg #[.string L.name, .slice H.j.A L.js.length H.j.c, .slice H.b.A L.bs.length H.b.c, .slice H.s.A L.ss.length H.s.c]), .int .i64 j] w fun e w' => e = .returned (.int .i64 er) ∧ Below w.heap.size w w' := by
  subst he
  have hb := (Below.refl w.heap.size w).alloc (Nat.le_refl _) (.cells #[.string L.name, .slice H.j.A L.js.length H.j.c, .slice H.b.A L.bs.length H.b.c, .slice H.s.A L.ss.length H.s.c] 26)
  cases h1 : inB j 0 ((L.bs.length : Int) - 1)
  all_goals
    go_enter Try.func42, Try.ntmps42
    go_wp2_with (go_at_call 34; refine (Within_any _ _ _ _).mono ?_; rintro e w' ⟨rfl, rfl⟩)
    go_ret
    exact ⟨rfl, hb⟩
set_option maxHeartbeats 400000 in
theorem InnerErr_at {L : Ll} (hn : L.js.length ≤ 1000) (H : Hds) (j er : Int) (he : (if inB j 1 ((L.js.length : Int) - 2) then (0 : Int) else 6) = er) (w : World) :
    Calls Try.prog 44 #[(.agg #[.string L.name, .slice H.j.A L.js.length H.j.c, .slice H.b.A L.bs.length H.b.c, .slice H.s.A L.ss.length H.s.c]), .int .i64 j] w fun e w' => e = .returned (.int .i64 er) ∧ Below w.heap.size w w' := by
  subst he
  have hb := (Below.refl w.heap.size w).alloc (Nat.le_refl _) (.cells #[.string L.name, .slice H.j.A L.js.length H.j.c, .slice H.b.A L.bs.length H.b.c, .slice H.s.A L.ss.length H.s.c] 26)
  cases h1 : inB j 1 ((L.js.length : Int) - 2)
  all_goals
    go_enter Try.func44, Try.ntmps44
    go_wp2_with (go_at_call 34; refine (Within_any _ _ _ _).mono ?_; rintro e w' ⟨rfl, rfl⟩)
    go_ret
    exact ⟨rfl, hb⟩

set_option maxHeartbeats 2000000 in
set_option maxRecDepth 100000 in
theorem refGradientOf_at {L : Ll} (hr : Right L) (H : Hds) (k : Nat) (hk : k < L.bs.length) {a b : Int} (hv : lowV (1000 * riseL L k) (lenL L k) = .agg #[.int .i64 a, .int .i64 b]) (w : World) (hA : LnAt w w.heap.size L H) :
    Calls Try.prog 43 #[(.agg #[.string L.name, .slice H.j.A L.js.length H.j.c, .slice H.b.A L.bs.length H.b.c, .slice H.s.A L.ss.length H.s.c]), .int .i64 k] w fun e w' => e = .returned (.agg #[.int .i64 a, .int .i64 b]) ∧ Below w.heap.size w w' := by
  have hj := hr.jb
  have hk1 : k < L.js.length := by omega
  have hk2 : k + 1 < L.js.length := by omega
  have h40 := hr.most
  obtain ⟨⟨Aj, cj⟩, ⟨Ab, cb⟩, ⟨As, cs⟩, each⟩ := H
  obtain ⟨aj, haj⟩ : ∃ a, Aj = some a := by obtain ⟨a, h, _⟩ := hA.j.joint (List.getElem?_eq_getElem hk1); exact ⟨a, h⟩
  subst haj
  obtain ⟨ab, hab⟩ : ∃ a, Ab = some a := by obtain ⟨a, h, _⟩ := hA.b.beam (List.getElem?_eq_getElem hk); exact ⟨a, h⟩
  subst hab
  have Q0 := Lib.hid (QF.start hA)
  obtain ⟨a0, e0, _, x0, _⟩ := Q0.out.ln.b.beam (List.getElem?_eq_getElem hk)
  obtain ⟨a1, e1, _, _, x1, _⟩ := Q0.out.ln.j.joint (List.getElem?_eq_getElem hk1)
  obtain ⟨a2, e2, _, _, y1, _⟩ := Q0.out.ln.j.joint (List.getElem?_eq_getElem hk2)
  obtain rfl : ab = a0 := Option.some.inj e0
  obtain rfl : aj = a1 := Option.some.inj e1
  obtain rfl : aj = a2 := Option.some.inj e2
  obtain ⟨p1, p2⟩ := beam_len (hr.b _ (List.getElem_mem hk))
  obtain ⟨q3, q4⟩ := joint_up (hr.j _ (List.getElem_mem hk1))
  obtain ⟨q5, q6⟩ := joint_up (hr.j _ (List.getElem_mem hk2))
  have hrise : riseL L k = L.js[k + 1].u - L.js[k].u := by unfold riseL; rw [List.getElem?_eq_getElem hk1, List.getElem?_eq_getElem hk2]; rfl
  rw [hrise, lenL_eq hk] at hv
  generalize L.js[k] = J1 at *
  generalize L.js[k + 1] = J2 at *
  generalize L.bs[k] = B at *
  have HV := Lib.hid hv
  have hkb' : (k : Int) < (L.bs.length : Int) := by omega
  have hkj' : (k : Int) < (L.js.length : Int) := by omega
  have hkj2' : (k : Int) + 1 < (L.js.length : Int) := by omega
  have t0 := IntWalk.i64_in ((k : Int) + 1) (by omega)
  have t1 := IntWalk.i64_in (J2.u - J1.u) (by omega)
  have t2 := IntWalk.i64_in (1000 * (J2.u - J1.u)) (by omega)
  have m1 : -4611686018427387904 ≤ 1000 * (J2.u - J1.u) := by omega
  have m2 : 1000 * (J2.u - J1.u) ≤ 4611686018427387904 := by omega
  have t4 : (0 : Int) ≤ (k : Int) + 1 := by omega
  have t5 : ((k : Int) + 1).toNat = k + 1 := by omega
  clear hv hr hA e0 e1 e2 hrise hj
  have X0 := Lib.hid ((Bk.new w 26 #[.string L.name, .slice (some aj) L.js.length cj, .slice (some ab) L.bs.length cb, .slice As L.ss.length cs]).alloc (.cells #[.int .i64 0, .int .i64 0] 46))
  go_enter Try.func43, Try.ntmps43
  go_wp2_with fail
  generalize (w.alloc (.cells #[.string L.name, .slice (some aj) L.js.length cj, .slice (some ab) L.bs.length cb, .slice As L.ss.length cs] 26)).alloc (.cells #[.int .i64 0, .int .i64 0] 46) = W0 at *
  obtain ⟨c0, c1, c2, c3⟩ := X0.out.four
  go_still_tail 21, (by kernel_rfl)
  go_wp2_with fail
  refine (Lowest_at HV.out m1 m2 (by omega) (by omega) _).mono ?_
  rintro e w2 ⟨rfl, hb2⟩
  have Q2 : Hid (QF w w2 L ⟨⟨some aj, cj⟩, ⟨some ab, cb⟩, ⟨As, cs⟩, each⟩) := Lib.hid (by first | exact Q0.out.call hb2 | exact QF.call Q0.out.drew hb2)
  obtain ⟨d0, d1, f0, f1⟩ := Q2.out.res.two
  clear hb2 x0 x1 y1 t0 t1 t2 t4 t5 c0 c1 c2 c3 X0
  go_wp2_with fail
  refine bodyPost_ret (v := .agg #[.int .i64 a, .int .i64 b]) (by simp [results, Try.results43, go_sem, d0, d1]) rfl ⟨rfl, ?_⟩
  exact QF.set2 Q2.out _ _

set_option maxHeartbeats 4000000 in
set_option maxRecDepth 100000 in
theorem slopes_at {L : Ll} (hr : Right L) (H : Hds) (k : Nat) (hk : k + 1 < L.bs.length) {t d : Int} (ht : turnL L (k + 1) = t) (hd : lenL L k * lenL L (k + 1) = d) (w : World) (hA : LnAt w w.heap.size L H) :
    Calls Try.prog 102 #[(.agg #[.string L.name, .slice H.j.A L.js.length H.j.c, .slice H.b.A L.bs.length H.b.c, .slice H.s.A L.ss.length H.s.c]), .int .i64 ((k : Int) + 1)] w fun e w' => e = .returned (.tuple #[.int .i64 t, .int .i64 d]) ∧ Below w.heap.size w w' := by
  have hj := hr.jb
  have hk0 : k < L.bs.length := by omega
  have hk1 : k < L.js.length := by omega
  have hk2 : k + 1 < L.js.length := by omega
  have hk3 : k + 1 + 1 < L.js.length := by omega
  have h40 := hr.most
  obtain ⟨⟨Aj, cj⟩, ⟨Ab, cb⟩, ⟨As, cs⟩, each⟩ := H
  obtain ⟨aj, haj⟩ : ∃ a, Aj = some a := by obtain ⟨a, h, _⟩ := hA.j.joint (List.getElem?_eq_getElem hk1); exact ⟨a, h⟩
  subst haj
  obtain ⟨ab, hab⟩ : ∃ a, Ab = some a := by obtain ⟨a, h, _⟩ := hA.b.beam (List.getElem?_eq_getElem hk); exact ⟨a, h⟩
  subst hab
  have S0 := Lib.hid (LawSt.start hA)
  obtain ⟨a0, e0, _, x0, _⟩ := S0.out.ln.b.beam (List.getElem?_eq_getElem hk0)
  obtain ⟨a1, e1, _, x1, _⟩ := S0.out.ln.b.beam (List.getElem?_eq_getElem hk)
  obtain ⟨a2, e2, _, y0, _⟩ := S0.out.ln.j.joint (List.getElem?_eq_getElem hk1)
  obtain ⟨a3, e3, _, y1, _⟩ := S0.out.ln.j.joint (List.getElem?_eq_getElem hk2)
  obtain ⟨a4, e4, _, y2, _⟩ := S0.out.ln.j.joint (List.getElem?_eq_getElem hk3)
  obtain rfl : ab = a0 := Option.some.inj e0
  obtain rfl : ab = a1 := Option.some.inj e1
  obtain rfl : aj = a2 := Option.some.inj e2
  obtain rfl : aj = a3 := Option.some.inj e3
  obtain rfl : aj = a4 := Option.some.inj e4
  obtain ⟨p1, p2⟩ := beam_len (hr.b _ (List.getElem_mem hk0))
  obtain ⟨p3, p4⟩ := beam_len (hr.b _ (List.getElem_mem hk))
  have q1 := joint_in (hr.j _ (List.getElem_mem hk1))
  have q2 := joint_in (hr.j _ (List.getElem_mem hk2))
  have q3 := joint_in (hr.j _ (List.getElem_mem hk3))
  have hturn : turnL L (k + 1) = (L.js[k + 1 + 1].x - L.js[k + 1].x) * L.bs[k].len - (L.js[k + 1].x - L.js[k].x) * L.bs[k + 1].len := by
    unfold turnL asideL
    rw [Nat.add_sub_cancel, lenL_eq hk0, lenL_eq hk, List.getElem?_eq_getElem hk1, List.getElem?_eq_getElem hk2, List.getElem?_eq_getElem hk3]
    rfl
  rw [hturn] at ht
  rw [lenL_eq hk0, lenL_eq hk] at hd
  generalize L.js[k] = J0 at *
  generalize L.js[k + 1] = J1 at *
  generalize L.js[k + 1 + 1] = J2 at *
  obtain ⟨b, hb⟩ : ∃ b, L.bs[k].len = b := ⟨_, rfl⟩
  obtain ⟨c, hc⟩ : ∃ c, L.bs[k + 1].len = c := ⟨_, rfl⟩
  rw [hb] at x0 p1 p2 ht hd
  rw [hc] at x1 p3 p4 ht hd
  obtain ⟨m1, m2⟩ := mul_bound (a := J2.x - J1.x) (A := 40000) (by omega) (by omega) (by omega) p2
  obtain ⟨m3, m4⟩ := mul_bound (a := J1.x - J0.x) (A := 40000) (by omega) (by omega) (by omega) p4
  obtain ⟨m5, m6⟩ := mul_bound (a := b) (A := 30000) (by omega) p2 (by omega) p4
  have HT := Lib.hid ht
  have HD := Lib.hid hd
  have hkb' : (k : Int) < (L.bs.length : Int) := by omega
  have hkb2' : (k : Int) + 1 < (L.bs.length : Int) := by omega
  have hkj' : (k : Int) < (L.js.length : Int) := by omega
  have hkj2' : (k : Int) + 1 < (L.js.length : Int) := by omega
  have hkj3' : (k : Int) + 1 + 1 < (L.js.length : Int) := by omega
  have v0 := IntWalk.i64_in (k : Int) (by omega)
  have v1 := IntWalk.i64_in ((k : Int) + 1 + 1) (by omega)
  have v2 := IntWalk.i64_in (J2.x - J1.x) (by omega)
  have v3 := IntWalk.i64_in (J1.x - J0.x) (by omega)
  have v4 := IntWalk.i64_in ((J2.x - J1.x) * b) (by omega)
  have v5 := IntWalk.i64_in ((J1.x - J0.x) * c) (by omega)
  have v6 := IntWalk.i64_in ((J2.x - J1.x) * b - (J1.x - J0.x) * c) (by omega)
  have v7 := IntWalk.i64_in (b * c) (by omega)
  have q7 : (0 : Int) ≤ (k : Int) + 1 := by omega
  have q8 : (0 : Int) ≤ (k : Int) + 1 + 1 := by omega
  have k1 : ((k : Int) + 1).toNat = k + 1 := by omega
  have k2 : ((k : Int) + 1 + 1).toNat = k + 1 + 1 := by omega
  clear ht hd hr hA e0 e1 e2 e3 e4 hturn hj hb hc q1 q2 q3 m1 m2 m3 m4 m5 m6
  go_enter Try.func102, Try.ntmps102
  go_wp2_with fail
  go_region
  go_wp2_with fail
  go_region
  all_goals
    go_wp2_with fail
    go_ret2
    exact ⟨by rw [← HT.out, ← HD.out]; rfl, by first | exact S0.out.bl.drew.drew | exact S0.out.bl.drew | exact S0.out.bl⟩

set_option maxHeartbeats 1000000 in
theorem refBendAt_at {L : Ll} (hr : Right L) (H : Hds) (k : Nat) (hk : k + 1 < L.bs.length) {a b : Int} (hv : lowV (1000 * turnL L (k + 1)) (lenL L k * lenL L (k + 1)) = .agg #[.int .i64 a, .int .i64 b]) (w : World) (hA : LnAt w w.heap.size L H) :
    Calls Try.prog 45 #[(.agg #[.string L.name, .slice H.j.A L.js.length H.j.c, .slice H.b.A L.bs.length H.b.c, .slice H.s.A L.ss.length H.s.c]), .int .i64 ((k : Int) + 1)] w fun e w' => e = .returned (.agg #[.int .i64 a, .int .i64 b]) ∧ Below w.heap.size w w' := by
  have Q0 := Lib.hid (QF.start hA)
  have HR := Lib.hid hr
  obtain ⟨⟨q1, q2⟩, q3, q4⟩ := turnL_bound hr hk
  obtain ⟨t, ht⟩ : ∃ t, turnL L (k + 1) = t := ⟨_, rfl⟩
  obtain ⟨d, hd⟩ : ∃ d, lenL L k * lenL L (k + 1) = d := ⟨_, rfl⟩
  rw [ht] at q1 q2 hv
  rw [hd] at q3 q4 hv
  have HV := Lib.hid hv
  have HT := Lib.hid ht
  have HD := Lib.hid hd
  have t1 := IntWalk.i64_in (1000 * t) (by omega)
  clear hv ht hd hA hr
  go_enter Try.func45, Try.ntmps45
  go_wp2_with fail
  refine (slopes_at HR.out H k hk HT.out HD.out _ Q0.out.ln).mono ?_
  rintro e w1 ⟨rfl, hb1⟩
  have Q1 := Lib.hid (Q0.out.call hb1)
  clear hb1 Q0
  go_wp2_with fail
  refine (Lowest_at HV.out (by omega) (by omega) (by omega) (by omega) _).mono ?_
  rintro e w2 ⟨rfl, hb2⟩
  have Q2 := Lib.hid (Q1.out.call hb2)
  obtain ⟨d0, d1, f0, f1⟩ := Q2.out.res.two
  clear hb2 Q1
  go_wp2_with fail
  refine bodyPost_ret (v := .agg #[.int .i64 a, .int .i64 b]) (by simp [results, Try.results45, go_sem, d0, d1]) rfl ⟨rfl, ?_⟩
  exact QF.set2 Q2.out _ _
end Go.Proofs.Ythdbjbdfcnepgaa
