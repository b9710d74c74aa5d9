/-
  Gradients and bends: the walks of GradientOf and BendAt, the program's.
-/
import Derived.Test.YthdbjbdfcnepgaaPlAt
import Derived.Test.YthdbjbdfcnepgaaBase
import Derived.Deep.RegionWith
namespace Go.Proofs.Ythdbjbdfcnepgaa
open Go.RowKit

/-- How much higher the second joint of a beam is. -/
def riseL (L : Ll) (k : Nat) : Int := ((L.js[k + 1]?.map Lj.u).getD 0) - ((L.js[k]?.map Lj.u).getD 0)
theorem riseL_bound {L : Ll} (hr : Right L) {k : Nat} (hk : k < L.bs.length) : -40000 ≤ riseL L k ∧ riseL L k ≤ 40000 := by
  have hj := hr.jb
  have h1 := joint_up (hr.j _ (List.getElem_mem (show k < L.js.length by omega)))
  have h2 := joint_up (hr.j _ (List.getElem_mem (show k + 1 < L.js.length by omega)))
  unfold riseL
  rw [List.getElem?_eq_getElem (show k < L.js.length by omega), List.getElem?_eq_getElem (show k + 1 < L.js.length by omega)]
  simp only [Option.map_some, Option.getD_some]
  omega

set_option maxHeartbeats 1000000 in
theorem rise_at {L : Ll} (hr : Right L) (H : Hds) (P : Addr) (pc : Nat) (k : Nat) (hk : k < L.bs.length) {r : Int} (hrv : riseL L k = r) (w : World) (hA : Lies w w.heap.size H.j.A (L.js.flatMap jc)) :
    Calls Try.prog 96 #[(.agg #[.string L.name, .slice H.j.A L.js.length H.j.c, .slice H.b.A L.bs.length H.b.c, .slice H.s.A L.ss.length H.s.c, .slice (some P) L.js.length pc]), .int .i64 k] w fun e w' => e = .returned (.int .i64 r) ∧ Below w.heap.size w w' := by
  obtain ⟨⟨Aj, cj⟩, ⟨Ab, cb⟩, ⟨As, cs⟩, each⟩ := H
  have hj := hr.jb
  have h40 := hr.most
  have hk1 : k < L.js.length := by omega
  have hk2 : k + 1 < L.js.length := by omega
  obtain ⟨aj, haj⟩ : ∃ a, Aj = some a := by obtain ⟨a, h, _⟩ := hA.joint (List.getElem?_eq_getElem (show 0 < L.js.length by omega)); exact ⟨a, h⟩
  subst haj
  have b0 := (Below.refl w.heap.size w).alloc (Nat.le_refl _) (.cells #[.string L.name, .slice (some aj) L.js.length cj, .slice Ab L.bs.length cb, .slice As L.ss.length cs, .slice (some P) L.js.length pc] 119)
  obtain ⟨a1, e1, _, _, x1, _⟩ := (hA.below b0).joint (List.getElem?_eq_getElem hk1)
  obtain ⟨a2, e2, _, _, x2, _⟩ := (hA.below b0).joint (List.getElem?_eq_getElem hk2)
  simp only [Option.some.injEq] at e1 e2
  subst e1
  subst e2
  have hv := Lib.hid (show L.js[k + 1].u - L.js[k].u = r by rw [← hrv]; unfold riseL; rw [List.getElem?_eq_getElem hk1, List.getElem?_eq_getElem hk2]; rfl)
  obtain ⟨q3, q4⟩ := joint_up (hr.j _ (List.getElem_mem hk1))
  obtain ⟨q5, q6⟩ := joint_up (hr.j _ (List.getElem_mem hk2))
  have HB := Lib.hid b0
  have h41 : L.js.length ≤ 41 := by omega
  clear b0 hA hr hj hrv
  go_enter Try.func96, Try.ntmps96
  go_wp2_with fail
  go_region
  go_wp2_with fail
  go_ret
  exact ⟨by rw [← hv.out]; rfl, HB.out.drew⟩

/-- A checked line and a fraction in boxes; the line in memory. -/
structure CkF (w W : World) (L : Ll) (H : Hds) (P : Addr) (pc : Nat) : Prop where
  box : Bk W w.heap.size 119 #[.string L.name, .slice H.j.A L.js.length H.j.c, .slice H.b.A L.bs.length H.b.c, .slice H.s.A L.ss.length H.s.c, .slice (some P) L.js.length pc]
  res : Bk W (w.heap.size + 1) 46 #[.int .i64 0, .int .i64 0]
  bl : Below w.heap.size w W
  ln : LnAt W W.heap.size L H
section
variable {w W W' : World} {L : Ll} {H : Hds} {P : Addr} {pc : Nat}
theorem CkF.call (h : CkF w W L H P pc) (hb : Below W.heap.size W W') : CkF w W' L H P pc := ⟨h.box.call hb, h.res.call hb, Below.step h.bl hb, (h.ln.below hb).more hb.size⟩
theorem CkF.drew (h : CkF w W L H P pc) : CkF w W.drew L H P pc := ⟨h.box, h.res, h.bl.drew, h.ln.keep (fun _ _ => rfl)⟩
theorem CkF.start (hA : LnAt w w.heap.size L H) : CkF w ((w.alloc (.cells #[.string L.name, .slice H.j.A L.js.length H.j.c, .slice H.b.A L.bs.length H.b.c, .slice H.s.A L.ss.length H.s.c, .slice (some P) L.js.length pc] 119)).alloc (.cells #[.int .i64 0, .int .i64 0] 46)) L H P pc :=
  have b0 := ((Below.refl w.heap.size w).alloc (Nat.le_refl _) (.cells #[.string L.name, .slice H.j.A L.js.length H.j.c, .slice H.b.A L.bs.length H.b.c, .slice H.s.A L.ss.length H.s.c, .slice (some P) L.js.length pc] 119)).alloc (by simp) (.cells #[.int .i64 0, .int .i64 0] 46)
  ⟨(Bk.new w _ _).alloc _, Bk.new1 w _ _ _, b0, (hA.below b0).more b0.size⟩
end

theorem fraction_at {n d a b : Int} (hv : lowV n d = .agg #[.int .i64 a, .int .i64 b]) (hn : -4611686018427387904 ≤ n) (hn' : n ≤ 4611686018427387904) (hd : 1 ≤ d) (hd' : d ≤ 4611686018427387904) (w : World) :
    Calls Try.prog 99 #[.int .i64 n, .int .i64 d] w fun e w' => e = .returned (.agg #[.int .i64 a, .int .i64 b]) ∧ Below w.heap.size w w' := by
  have := fraction_any n d hn hn' hd hd' w
  unfold lowV at hv
  rw [hv] at this
  exact this
theorem Lowest_at {n d a b : Int} (hv : lowV n d = .agg #[.int .i64 a, .int .i64 b]) (hn : -4611686018427387904 ≤ n) (hn' : n ≤ 4611686018427387904) (hd : 1 ≤ d) (hd' : d ≤ 4611686018427387904) (w : World) :
    Calls Try.prog 101 #[.int .i64 n, .int .i64 d] w fun e w' => e = .returned (.agg #[.int .i64 a, .int .i64 b]) ∧ Below w.heap.size w w' := by
  rw [← hv]
  exact Lowest_any n d hn hn' hd hd' w

set_option maxHeartbeats 1000000 in
set_option maxRecDepth 100000 in
theorem gradient_at {L : Ll} (hr : Right L) (H : Hds) (P : Addr) (pc : Nat) (k : Nat) (hk : k < L.bs.length) {a b : Int} (hv : lowV (1000 * riseL L k) (lenL L k) = .agg #[.int .i64 a, .int .i64 b]) (w : World) (hA : LnAt w w.heap.size L H) :
    Calls Try.prog 94 #[(.agg #[.string L.name, .slice H.j.A L.js.length H.j.c, .slice H.b.A L.bs.length H.b.c, .slice H.s.A L.ss.length H.s.c, .slice (some P) L.js.length pc]), .int .i64 k] w fun e w' => e = .returned (.agg #[.int .i64 a, .int .i64 b]) ∧ Below w.heap.size w w' := by
  obtain ⟨ab, hab⟩ : ∃ a, H.b.A = some a := by obtain ⟨a, h, _⟩ := hA.b.beam (List.getElem?_eq_getElem hk); exact ⟨a, h⟩
  obtain ⟨⟨Aj, cj⟩, ⟨Ab, cb⟩, ⟨As, cs⟩, each⟩ := H
  obtain rfl : Ab = some ab := hab
  have G0 := Lib.hid (CkF.start (P := P) (pc := pc) hA)
  have HR := Lib.hid hr
  have h40 := hr.most
  obtain ⟨p1, p2⟩ := beam_len (hr.b _ (List.getElem_mem hk))
  obtain ⟨r1, r2⟩ := riseL_bound hr hk
  rw [lenL_eq hk] at hv
  have hB := Lib.hid (List.getElem?_eq_getElem hk)
  obtain ⟨a1, e1, _, y1, _⟩ := G0.out.ln.b.beam hB.out
  obtain rfl : ab = a1 := Option.some.inj e1
  generalize L.bs[k] = B at *
  obtain ⟨r, hrr⟩ : ∃ r, riseL L k = r := ⟨_, rfl⟩
  rw [hrr] at hv r1 r2
  have HV := Lib.hid hv
  have HRR := Lib.hid hrr
  have hk' : (k : Int) < (L.bs.length : Int) := by omega
  have t1 := IntWalk.i64_in (1000 * r) (by omega)
  clear hv hrr hA hr e1
  go_enter Try.func94, Try.ntmps94
  go_wp2_with fail
  go_region_with (first | (go_at_call 96; refine (rise_at HR.out ⟨⟨Aj, cj⟩, ⟨some ab, cb⟩, ⟨As, cs⟩, each⟩ P pc k hk HRR.out _ (by first | exact G0.out.ln.j | exact G0.out.drew.ln.j)).mono ?_; rintro e w1 ⟨rfl, hb1⟩; have G1 : Hid (CkF w w1 L ⟨⟨Aj, cj⟩, ⟨some ab, cb⟩, ⟨As, cs⟩, each⟩ P pc) := Lib.hid (by first | exact CkF.call G0.out hb1 | exact CkF.call G0.out.drew hb1); obtain ⟨c0, c1, c2, c3, c4⟩ := G1.out.box.five; obtain ⟨a1, e1, _, y2, _⟩ := G1.out.ln.b.beam hB.out; obtain rfl : ab = a1 := Option.some.inj e1; clear e1 hb1) | (go_at_call 99; refine (fraction_at HV.out (by omega) (by omega) (by omega) (by omega) _).mono ?_; rintro e w2 ⟨rfl, hb2⟩; have G2 : Hid (CkF w w2 L ⟨⟨Aj, cj⟩, ⟨some ab, cb⟩, ⟨As, cs⟩, each⟩ P pc) := Lib.hid (by first | exact CkF.call G1.out hb2 | exact CkF.call G1.out.drew hb2); obtain ⟨d0, d1, f0, f1⟩ := G2.out.res.two; clear hb2))
  all_goals
    go_wp2_with fail
    refine bodyPost_ret (v := .agg #[.int .i64 a, .int .i64 b]) (by simp [results, Try.results94, go_sem, d0, d1]) rfl ⟨rfl, ?_⟩
    first | exact (G2.out.bl.setCell (by simp) _).setCell (by simp) _ | exact ((G2.out.bl.setCell (by simp) _).setCell (by simp) _).drew | exact ((G2.out.bl.drew.setCell (by simp) _).setCell (by simp) _)
end Go.Proofs.Ythdbjbdfcnepgaa
