/-
  The walks of the reference's AcrossAt and UpAt.
-/
import Derived.Test.YtmnlgeglmkdecaaRefPl
import Derived.StillTailTactics
namespace Go.Proofs.Ytmnlgeglmkdecaa
open Go.RowKit

theorem LawSt.drew {w W : World} {L : Ll} {H : Hds} (h : LawSt w W L H) : LawSt w W.drew L H := ⟨h.box, h.bl.drew, h.ln.keep (fun _ _ => rfl)⟩

set_option maxHeartbeats 2000000 in
set_option maxRecDepth 100000 in
theorem refAcrossAt_any {L : Ll} (hr : Right L) (H : Hds) (hL : L.ok) (p : Int) (p0 : 0 ≤ p) (p1 : p ≤ placeL L.bs L.bs.length) (w : World) (hA : LnAt w w.heap.size L H) :
    Calls Try.prog 31 #[(.agg #[.string L.name, .slice H.j.A L.js.length H.j.c, .slice H.b.A L.bs.length H.b.c, .slice H.s.A L.ss.length H.s.c]), .int .i64 p] w fun e w' => e = .returned (lowV (numAt L Lj.x p) (lenL L (beamOf L p))) ∧ Below w.heap.size w w' := by
  have pm : p ≤ 2000000 := by have := (placeL_bound L.bs hr.b L.bs.length (Nat.le_refl _)).2; have := hr.most; omega
  have hk := beamOf_at hr p0
  have hd := beamOf_end hr p0 p1
  have hl := lenL_in hr hk.1
  have hkj : beamOf L p < L.js.length := by have := hr.jb; have := hk.1; omega
  have hkj2 : beamOf L p + 1 < L.js.length := by have := hr.jb; have := hk.1; omega
  have j1 := joint_in (hr.j _ (List.getElem_mem hkj))
  have j2 := joint_in (hr.j _ (List.getElem_mem hkj2))
  obtain ⟨⟨Aj, cj⟩, ⟨Ab, cb⟩, ⟨As, cs⟩, each⟩ := H
  obtain ⟨aj, haj⟩ : ∃ a, Aj = some a := by obtain ⟨a, h, _⟩ := hA.j.joint (List.getElem?_eq_getElem hkj); exact ⟨a, h⟩
  subst haj
  obtain ⟨ab, hab⟩ : ∃ a, Ab = some a := by obtain ⟨a, h, _⟩ := hA.b.beam (List.getElem?_eq_getElem hk.1); exact ⟨a, h⟩
  subst hab
  have S0 := Lib.hid ((LawSt.start hA).alloc (.cells #[.int .i64 0, .int .i64 0] 46))
  have R0 := Lib.hid (Bk.new1 w (.cells #[.string L.name, .slice (some aj) L.js.length cj, .slice (some ab) L.bs.length cb, .slice As L.ss.length cs] 26) 46 #[.int .i64 0, .int .i64 0])
  have HR := Lib.hid hr
  have hkb := hk.1
  have hnb := hL.nb
  have hnj := hL.nj
  have HN := Lib.hid (show numAt L Lj.x p = L.js[beamOf L p].x * (lenL L (beamOf L p) - (p - placeL L.bs (beamOf L p))) + L.js[beamOf L p + 1].x * (p - placeL L.bs (beamOf L p)) by unfold numAt; rw [List.getElem?_eq_getElem hkj, List.getElem?_eq_getElem hkj2]; rfl)
  have HLL := Lib.hid (show lenL L (beamOf L p) = L.bs[beamOf L p].len from lenL_eq hkb)
  have hB := Lib.hid (List.getElem?_eq_getElem hkb)
  have hJ1 := Lib.hid (List.getElem?_eq_getElem hkj)
  have hJ2 := Lib.hid (List.getElem?_eq_getElem hkj2)
  have hl1 : 1000 ≤ L.bs[beamOf L p].len ∧ L.bs[beamOf L p].len ≤ 30000 := by rw [← HLL.out]; exact hl
  have hd1 : 0 ≤ p - placeL L.bs (beamOf L p) ∧ p - placeL L.bs (beamOf L p) ≤ L.bs[beamOf L p].len := by rw [← HLL.out]; exact hd
  rw [HN.out, HLL.out]
  clear HN HLL hl hd hk
  have HBE := Lib.hid (refBeamAt_any HR.out ⟨⟨some aj, cj⟩, ⟨some ab, cb⟩, ⟨As, cs⟩, each⟩ hL p p0 pm _ S0.out.ln)
  generalize L.js[beamOf L p] = J1 at *
  generalize L.js[beamOf L p + 1] = J2 at *
  generalize L.bs[beamOf L p] = B at *
  generalize beamOf L p = k at *
  generalize p - placeL L.bs k = d at *
  clear hA hr p1
  go_enter Try.func31, Try.ntmps31
  go_wp2_with fail
  refine HBE.out.mono ?_
  rintro e w1 ⟨rfl, hb1⟩
  have S1 := Lib.hid (S0.out.call hb1)
  have R1 := Lib.hid (R0.out.call hb1)
  obtain ⟨c0, c1, c2, c3⟩ := S1.out.box.four
  obtain ⟨a0, e0, _, x0, _⟩ := S1.out.ln.b.beam hB.out
  obtain ⟨a1, e1, _, x1, x2, x3, x4⟩ := S1.out.ln.j.joint hJ1.out
  obtain ⟨a2, e2, _, y1, y2, y3, y4⟩ := S1.out.ln.j.joint hJ2.out
  simp only [Option.some.injEq] at e0 e1 e2
  subst e0
  subst e1
  subst e2
  clear hb1 S0 R0 HBE
  have hkb' : (k : Int) < (L.bs.length : Int) := by omega
  have hkj' : (k : Int) < (L.js.length : Int) := by omega
  have hkj2' : (k : Int) + 1 < (L.js.length : Int) := by omega
  have t0 := IntWalk.i64_in ((k : Int) + 1) (by omega)
  go_wp2_with fail
  have t4 : (0 : Int) ≤ (k : Int) + 1 := by omega
  have t5 : ((k : Int) + 1).toNat = k + 1 := by omega
  go_still_tail 20, (by kernel_rfl)
  change wpList _ _ _ _ _ w1.drew
  obtain ⟨w1', hw1⟩ : ∃ w', w1.drew = w' := ⟨_, rfl⟩
  have S1' := Lib.hid (hw1 ▸ S1.out.drew)
  have R1' := Lib.hid (hw1 ▸ R1.out.drew)
  rw [hw1]
  clear hw1 c0 c1 c2 c3 x0 x1 x2 x3 x4 y1 y2 y3 y4
  go_wp2_with fail
  refine (between_any J1.x J2.x d B.len (by omega) (by omega) (by omega) (by omega) _).mono ?_
  obtain ⟨n, hn⟩ : ∃ n, J1.x * (B.len - d) + J2.x * d = n := ⟨_, rfl⟩
  have HN := Lib.hid hn
  rw [hn]
  unfold lowV
  clear hn
  rintro e w2 ⟨rfl, hb2⟩
  have S2 := Lib.hid (S1'.out.call hb2)
  have R2 := Lib.hid (R1'.out.call hb2)
  obtain ⟨d0, d1, f0, f1⟩ := R2.out.two
  clear hb2 S1 R1 S1' R1'
  go_wp2_with fail
  refine bodyPost_ret (v := .agg #[.int .i64 (n.tdiv (Int.gcd n B.len)), .int .i64 (B.len / (Int.gcd n B.len : Int))]) (by simp [results, Try.results31, go_sem, d0, d1]) rfl ⟨by rw [HN.out]; rfl, ?_⟩
  exact (S2.out.bl.setCell (by simp) _).setCell (by simp) _

set_option maxHeartbeats 2000000 in
set_option maxRecDepth 100000 in
theorem refUpAt_any {L : Ll} (hr : Right L) (H : Hds) (hL : L.ok) (p : Int) (p0 : 0 ≤ p) (p1 : p ≤ placeL L.bs L.bs.length) (w : World) (hA : LnAt w w.heap.size L H) :
    Calls Try.prog 32 #[(.agg #[.string L.name, .slice H.j.A L.js.length H.j.c, .slice H.b.A L.bs.length H.b.c, .slice H.s.A L.ss.length H.s.c]), .int .i64 p] w fun e w' => e = .returned (lowV (numAt L Lj.u p) (lenL L (beamOf L p))) ∧ Below w.heap.size w w' := by
  have pm : p ≤ 2000000 := by have := (placeL_bound L.bs hr.b L.bs.length (Nat.le_refl _)).2; have := hr.most; omega
  have hk := beamOf_at hr p0
  have hd := beamOf_end hr p0 p1
  have hl := lenL_in hr hk.1
  have hkj : beamOf L p < L.js.length := by have := hr.jb; have := hk.1; omega
  have hkj2 : beamOf L p + 1 < L.js.length := by have := hr.jb; have := hk.1; omega
  have j1 := joint_up (hr.j _ (List.getElem_mem hkj))
  have j2 := joint_up (hr.j _ (List.getElem_mem hkj2))
  obtain ⟨⟨Aj, cj⟩, ⟨Ab, cb⟩, ⟨As, cs⟩, each⟩ := H
  obtain ⟨aj, haj⟩ : ∃ a, Aj = some a := by obtain ⟨a, h, _⟩ := hA.j.joint (List.getElem?_eq_getElem hkj); exact ⟨a, h⟩
  subst haj
  obtain ⟨ab, hab⟩ : ∃ a, Ab = some a := by obtain ⟨a, h, _⟩ := hA.b.beam (List.getElem?_eq_getElem hk.1); exact ⟨a, h⟩
  subst hab
  have S0 := Lib.hid ((LawSt.start hA).alloc (.cells #[.int .i64 0, .int .i64 0] 46))
  have R0 := Lib.hid (Bk.new1 w (.cells #[.string L.name, .slice (some aj) L.js.length cj, .slice (some ab) L.bs.length cb, .slice As L.ss.length cs] 26) 46 #[.int .i64 0, .int .i64 0])
  have HR := Lib.hid hr
  have hkb := hk.1
  have hnb := hL.nb
  have hnj := hL.nj
  have HN := Lib.hid (show numAt L Lj.u p = L.js[beamOf L p].u * (lenL L (beamOf L p) - (p - placeL L.bs (beamOf L p))) + L.js[beamOf L p + 1].u * (p - placeL L.bs (beamOf L p)) by unfold numAt; rw [List.getElem?_eq_getElem hkj, List.getElem?_eq_getElem hkj2]; rfl)
  have HLL := Lib.hid (show lenL L (beamOf L p) = L.bs[beamOf L p].len from lenL_eq hkb)
  have hB := Lib.hid (List.getElem?_eq_getElem hkb)
  have hJ1 := Lib.hid (List.getElem?_eq_getElem hkj)
  have hJ2 := Lib.hid (List.getElem?_eq_getElem hkj2)
  have hl1 : 1000 ≤ L.bs[beamOf L p].len ∧ L.bs[beamOf L p].len ≤ 30000 := by rw [← HLL.out]; exact hl
  have hd1 : 0 ≤ p - placeL L.bs (beamOf L p) ∧ p - placeL L.bs (beamOf L p) ≤ L.bs[beamOf L p].len := by rw [← HLL.out]; exact hd
  rw [HN.out, HLL.out]
  clear HN HLL hl hd hk
  have HBE := Lib.hid (refBeamAt_any HR.out ⟨⟨some aj, cj⟩, ⟨some ab, cb⟩, ⟨As, cs⟩, each⟩ hL p p0 pm _ S0.out.ln)
  generalize L.js[beamOf L p] = J1 at *
  generalize L.js[beamOf L p + 1] = J2 at *
  generalize L.bs[beamOf L p] = B at *
  generalize beamOf L p = k at *
  generalize p - placeL L.bs k = d at *
  clear hA hr p1
  go_enter Try.func32, Try.ntmps32
  go_wp2_with fail
  refine HBE.out.mono ?_
  rintro e w1 ⟨rfl, hb1⟩
  have S1 := Lib.hid (S0.out.call hb1)
  have R1 := Lib.hid (R0.out.call hb1)
  obtain ⟨c0, c1, c2, c3⟩ := S1.out.box.four
  obtain ⟨a0, e0, _, x0, _⟩ := S1.out.ln.b.beam hB.out
  obtain ⟨a1, e1, _, x1, x2, x3, x4⟩ := S1.out.ln.j.joint hJ1.out
  obtain ⟨a2, e2, _, y1, y2, y3, y4⟩ := S1.out.ln.j.joint hJ2.out
  simp only [Option.some.injEq] at e0 e1 e2
  subst e0
  subst e1
  subst e2
  clear hb1 S0 R0 HBE
  have hkb' : (k : Int) < (L.bs.length : Int) := by omega
  have hkj' : (k : Int) < (L.js.length : Int) := by omega
  have hkj2' : (k : Int) + 1 < (L.js.length : Int) := by omega
  have t0 := IntWalk.i64_in ((k : Int) + 1) (by omega)
  go_wp2_with fail
  have t4 : (0 : Int) ≤ (k : Int) + 1 := by omega
  have t5 : ((k : Int) + 1).toNat = k + 1 := by omega
  go_still_tail 20, (by kernel_rfl)
  change wpList _ _ _ _ _ w1.drew
  obtain ⟨w1', hw1⟩ : ∃ w', w1.drew = w' := ⟨_, rfl⟩
  have S1' := Lib.hid (hw1 ▸ S1.out.drew)
  have R1' := Lib.hid (hw1 ▸ R1.out.drew)
  rw [hw1]
  clear hw1 c0 c1 c2 c3 x0 x1 x2 x3 x4 y1 y2 y3 y4
  go_wp2_with fail
  refine (between_any J1.u J2.u d B.len (by omega) (by omega) (by omega) (by omega) _).mono ?_
  obtain ⟨n, hn⟩ : ∃ n, J1.u * (B.len - d) + J2.u * d = n := ⟨_, rfl⟩
  have HN := Lib.hid hn
  rw [hn]
  unfold lowV
  clear hn
  rintro e w2 ⟨rfl, hb2⟩
  have S2 := Lib.hid (S1'.out.call hb2)
  have R2 := Lib.hid (R1'.out.call hb2)
  obtain ⟨d0, d1, f0, f1⟩ := R2.out.two
  clear hb2 S1 R1 S1' R1'
  go_wp2_with fail
  refine bodyPost_ret (v := .agg #[.int .i64 (n.tdiv (Int.gcd n B.len)), .int .i64 (B.len / (Int.gcd n B.len : Int))]) (by simp [results, Try.results32, go_sem, d0, d1]) rfl ⟨by rw [HN.out]; rfl, ?_⟩
  exact (S2.out.bl.setCell (by simp) _).setCell (by simp) _
end Go.Proofs.Ytmnlgeglmkdecaa
