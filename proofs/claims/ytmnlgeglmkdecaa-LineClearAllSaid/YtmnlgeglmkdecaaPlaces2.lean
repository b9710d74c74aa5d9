/-
  The walks of BeamAt, AcrossAt and UpAt.
-/
import Derived.Test.YtmnlgeglmkdecaaPlaces
import Derived.Deep.RegionHeld3
namespace Go.Proofs.Ytmnlgeglmkdecaa
open Go.RowKit

set_option maxHeartbeats 1000000 in
theorem BeamAt_err {L : Ll} {p er : Int} (h : plErr L p = er) (he : er ≠ 0) (H : Hds) (hL : L.ok) (w : World) (hA : LnAt w w.heap.size L H) :
    Calls Try.prog 25 #[(.agg #[.string L.name, .slice H.j.A L.js.length H.j.c, .slice H.b.A L.bs.length H.b.c, .slice H.s.A L.ss.length H.s.c]), .int .i64 p] w fun e w' => e = .returned (.tuple #[.int .i64 0, .int .i64 0, .int .i64 er]) ∧ Below w.heap.size w w' := by
  have b0 := (Below.refl w.heap.size w).alloc (Nat.le_refl _) (.cells #[.string L.name, .slice H.j.A L.js.length H.j.c, .slice H.b.A L.bs.length H.b.c, .slice H.s.A L.ss.length H.s.c] 26)
  have HB := Lib.hid b0
  have HA := Lib.hid ((hA.below b0).more b0.size)
  have ge : (er != 0) = true := by simp [he]
  have HE := Lib.hid he
  have HP := Lib.hid h
  clear hA b0 he h
  go_enter Try.func25, Try.ntmps25
  go_wp2_with (go_at_call 86; refine (checkPlace_err HP.out HE.out H hL _ HA.out).mono ?_; rintro e w1 ⟨rfl, hb1⟩)
  go_ret3
  exact ⟨rfl, (Below.step HB.out hb1).alloc (Below.step HB.out hb1).size _⟩

set_option maxHeartbeats 1000000 in
theorem BeamAt_good {L : Ll} {p : Int} (h : plErr L p = 0) (H : Hds) (hL : L.ok) (w : World) (hA : LnAt w w.heap.size L H) :
    Calls Try.prog 25 #[(.agg #[.string L.name, .slice H.j.A L.js.length H.j.c, .slice H.b.A L.bs.length H.b.c, .slice H.s.A L.ss.length H.s.c]), .int .i64 p] w fun e w' => e = .returned (.tuple #[.int .i64 (beamOf L p), .int .i64 (p - placeL L.bs (beamOf L p)), .int .i64 0]) ∧ Below w.heap.size w w' := by
  have b0 := (Below.refl w.heap.size w).alloc (Nat.le_refl _) (.cells #[.string L.name, .slice H.j.A L.js.length H.j.c, .slice H.b.A L.bs.length H.b.c, .slice H.s.A L.ss.length H.s.c] 26)
  have HB := Lib.hid b0
  have HA := Lib.hid ((hA.below b0).more b0.size)
  have HE := Lib.hid h
  obtain ⟨hr, _, p0, p1⟩ := plErr_good h
  have pm : p ≤ 2000000 := by have := (placeL_bound L.bs hr.b L.bs.length (Nat.le_refl _)).2; have := hr.most; omega
  have HK := Lib.hid (beamOf_at hr p0)
  have HR := Lib.hid hr
  clear hA b0 h hr p1
  go_enter Try.func25, Try.ntmps25
  go_wp2_with (first | (go_at_call 86; refine (checkPlace_good HE.out H hL _ HA.out).mono ?_; rintro e w1 ⟨g, rfl, hb1, hP, hg⟩; have HP := Lib.hid hP; clear hP; have B1 := Lib.hid ((Below.step HB.out hb1).alloc (Below.step HB.out hb1).size (.cells #[.string L.name, .slice H.j.A L.js.length H.j.c, .slice H.b.A L.bs.length H.b.c, .slice H.s.A L.ss.length H.s.c, .slice (some ⟨g, 0, none⟩) L.js.length L.js.length] 119)); have hp2 := Lib.hid ((HP.out.keep (fun p hp => World.cell?_alloc_lt w1 (.cells #[.string L.name, .slice H.j.A L.js.length H.j.c, .slice H.b.A L.bs.length H.b.c, .slice H.s.A L.ss.length H.s.c, .slice (some ⟨g, 0, none⟩) L.js.length L.js.length] 119) p hp)).more (show w1.heap.size ≤ (w1.alloc (.cells #[.string L.name, .slice H.j.A L.js.length H.j.c, .slice H.b.A L.bs.length H.b.c, .slice H.s.A L.ss.length H.s.c, .slice (some ⟨g, 0, none⟩) L.js.length L.js.length] 119)).heap.size by simp))) | (go_at_call 87; refine (beam_at HR.out H ⟨g, 0, none⟩ _ p p0 pm (beamOf L p) HK.out _ rfl _ hp2.out).mono ?_; rintro e w2 ⟨rfl, hb2⟩))
  go_ret3
  exact ⟨rfl, Below.step B1.out hb2⟩

theorem Acr1_any (j : Lj) (w : World) : Calls Try.prog 89 #[.agg #[.int .i64 j.x, .int .i64 j.u, .int .i64 j.lo, .int .i64 j.hi]] w fun e w' => e = .returned (.int .i64 j.x) ∧ w' = w.alloc (.cells #[.int .i64 j.x, .int .i64 j.u, .int .i64 j.lo, .int .i64 j.hi] 56) := by
  go_enter Try.func89, Try.ntmps89
  go_wp2
  go_ret
  exact ⟨rfl, rfl⟩
theorem Up1_any (j : Lj) (w : World) : Calls Try.prog 90 #[.agg #[.int .i64 j.x, .int .i64 j.u, .int .i64 j.lo, .int .i64 j.hi]] w fun e w' => e = .returned (.int .i64 j.u) ∧ w' = w.alloc (.cells #[.int .i64 j.x, .int .i64 j.u, .int .i64 j.lo, .int .i64 j.hi] 56) := by
  go_enter Try.func90, Try.ntmps90
  go_wp2
  go_ret
  exact ⟨rfl, rfl⟩

set_option maxHeartbeats 1000000 in
theorem readAt_err {L : Ll} {p er : Int} (h : plErr L p = er) (he : er ≠ 0) (H : Hds) (hL : L.ok) (f : Value) (w : World) (hA : LnAt w w.heap.size L H) :
    Calls Try.prog 88 #[(.agg #[.string L.name, .slice H.j.A L.js.length H.j.c, .slice H.b.A L.bs.length H.b.c, .slice H.s.A L.ss.length H.s.c]), .int .i64 p, f] w fun e w' => e = .returned (.tuple #[.agg #[.int .i64 0, .int .i64 0], .int .i64 er]) ∧ Below w.heap.size w w' := by
  have b0 := ((Below.refl w.heap.size w).alloc (Nat.le_refl _) (.cells #[.string L.name, .slice H.j.A L.js.length H.j.c, .slice H.b.A L.bs.length H.b.c, .slice H.s.A L.ss.length H.s.c] 26)).alloc (by simp) (.cells #[.int .i64 0, .int .i64 0] 46)
  have R0 := Lib.hid (Bk.new1 w (.cells #[.string L.name, .slice H.j.A L.js.length H.j.c, .slice H.b.A L.bs.length H.b.c, .slice H.s.A L.ss.length H.s.c] 26) 46 #[.int .i64 0, .int .i64 0])
  have HB := Lib.hid b0
  have HA := Lib.hid ((hA.below b0).more b0.size)
  have ge : (er != 0) = true := by simp [he]
  have HE := Lib.hid he
  have HP := Lib.hid h
  clear hA b0 he h
  go_enter Try.func88, Try.ntmps88
  go_wp2_with (go_at_call 86; refine (checkPlace_err HP.out HE.out H hL _ HA.out).mono ?_; rintro e w1 ⟨rfl, hb1⟩; have R1 := Lib.hid ((R0.out.call hb1).alloc (.cells #[.string ⟨#[]⟩, .slice none 0 0, .slice none 0 0, .slice none 0 0, .slice none 0 0] 119)); obtain ⟨d0, d1, f0, f1⟩ := R1.out.two)
  refine bodyPost_ret (v := .tuple #[.agg #[.int .i64 0, .int .i64 0], .int .i64 er]) (by simp [results, Try.results88, go_sem, d0, d1]) rfl ⟨rfl, ?_⟩
  have b1 := (Below.step HB.out hb1).alloc (Below.step HB.out hb1).size (.cells #[.string ⟨#[]⟩, .slice none 0 0, .slice none 0 0, .slice none 0 0, .slice none 0 0] 119)
  exact (b1.setCell (by simp) _).setCell (by simp) _

/-- A number of the joints, at a place: what it is over the beam's length. -/
def numAt (L : Ll) (num : Lj → Int) (p : Int) : Int :=
  ((L.js[beamOf L p]?.map num).getD 0) * (lenL L (beamOf L p) - (p - placeL L.bs (beamOf L p))) + ((L.js[beamOf L p + 1]?.map num).getD 0) * (p - placeL L.bs (beamOf L p))
/-- A fraction in lowest terms. -/
def lowV (n d : Int) : Value := .agg #[.int .i64 (n.tdiv (Int.gcd n d)), .int .i64 (d / (Int.gcd n d : Int))]
theorem mix_eq (f s l b : Int) : f * l + (s - f) * b = f * (l - b) + s * b := by rw [Int.mul_sub, Int.sub_mul]; omega

theorem joint_up {j : Lj} (h : jErr j = 0) : -20000 ≤ j.u ∧ j.u ≤ 20000 := by
  unfold jErr inB at h
  split at h
  · rename_i h1
    simp at h1
    split at h <;> omega
  · omega
theorem mul_two {a b : Int} {A B : Nat} (ha : a.natAbs ≤ A) (hb : b.natAbs ≤ B) : -((A * B : Nat) : Int) ≤ a * b ∧ a * b ≤ ((A * B : Nat) : Int) := by
  have h : (a * b).natAbs ≤ A * B := by rw [Int.natAbs_mul]; exact Nat.mul_le_mul ha hb
  omega

set_option maxHeartbeats 2000000 in
set_option maxRecDepth 100000 in
theorem readX_good {L : Ll} {p : Int} (h : plErr L p = 0) (H : Hds) (hL : L.ok) (w : World) (hA : LnAt w w.heap.size L H) :
    Calls Try.prog 88 #[(.agg #[.string L.name, .slice H.j.A L.js.length H.j.c, .slice H.b.A L.bs.length H.b.c, .slice H.s.A L.ss.length H.s.c]), .int .i64 p, .func (.func 89) #[] #[]] w fun e w' => e = .returned (.tuple #[lowV (numAt L Lj.x p) (lenL L (beamOf L p)), .int .i64 0]) ∧ Below w.heap.size w w' := by
  obtain ⟨hr, hckx, p0, p1⟩ := plErr_good h
  clear hckx
  have pm : p ≤ 2000000 := by have := (placeL_bound L.bs hr.b L.bs.length (Nat.le_refl _)).2; have := hr.most; omega
  have hk := beamOf_at hr p0
  have hd := beamOf_end hr p0 p1
  have hl := lenL_in hr hk.1
  have hkj : beamOf L p < L.js.length := by have := hr.jb; have := hk.1; omega
  have hkj2 : beamOf L p + 1 < L.js.length := by have := hr.jb; have := hk.1; omega
  have j1 := joint_in (hr.j _ (List.getElem_mem hkj))
  have j2 := joint_in (hr.j _ (List.getElem_mem hkj2))
  obtain ⟨⟨Aj, cj⟩, ⟨Ab, cb⟩, ⟨As, cs⟩, each⟩ := H
  obtain ⟨aj, haj⟩ : ∃ a, Aj = some a := by obtain ⟨a, h, _⟩ := hA.j.joint (List.getElem?_eq_getElem hkj); exact ⟨a, h⟩
  subst haj
  obtain ⟨ab, hab⟩ : ∃ a, Ab = some a := by obtain ⟨a, h, _⟩ := hA.b.beam (List.getElem?_eq_getElem hk.1); exact ⟨a, h⟩
  subst hab
  have b0 := ((Below.refl w.heap.size w).alloc (Nat.le_refl _) (.cells #[.string L.name, .slice (some aj) L.js.length cj, .slice (some ab) L.bs.length cb, .slice As L.ss.length cs] 26)).alloc (by simp) (.cells #[.int .i64 0, .int .i64 0] 46)
  have R0 := Lib.hid (Bk.new1 w (.cells #[.string L.name, .slice (some aj) L.js.length cj, .slice (some ab) L.bs.length cb, .slice As L.ss.length cs] 26) 46 #[.int .i64 0, .int .i64 0])
  have HB := Lib.hid b0
  have HA0 := Lib.hid hA
  have HA := Lib.hid ((hA.below b0).more b0.size)
  have HE := Lib.hid h
  have HK := Lib.hid hk
  have HR := Lib.hid hr
  have hkb := hk.1
  have hnb := hL.nb
  have hnj := hL.nj
  have hv := Lib.hid (show numAt L Lj.x p = L.js[beamOf L p].x * (lenL L (beamOf L p) - (p - placeL L.bs (beamOf L p))) + L.js[beamOf L p + 1].x * (p - placeL L.bs (beamOf L p)) by unfold numAt; rw [List.getElem?_eq_getElem hkj, List.getElem?_eq_getElem hkj2]; rfl)
  have HLL := Lib.hid (show lenL L (beamOf L p) = L.bs[beamOf L p].len from lenL_eq hkb)
  have HD := Lib.hid hd
  have hB := Lib.hid (List.getElem?_eq_getElem hkb)
  have hJ1 := Lib.hid (List.getElem?_eq_getElem hkj)
  have hJ2 := Lib.hid (List.getElem?_eq_getElem hkj2)
  have hl1 : 1000 ≤ L.bs[beamOf L p].len ∧ L.bs[beamOf L p].len ≤ 30000 := by rw [← HLL.out]; exact hl
  have hd1 : 0 ≤ p - placeL L.bs (beamOf L p) ∧ p - placeL L.bs (beamOf L p) ≤ L.bs[beamOf L p].len := by rw [← HLL.out]; exact hd
  generalize L.js[beamOf L p] = J1 at *
  generalize L.js[beamOf L p + 1] = J2 at *
  generalize L.bs[beamOf L p] = B at *
  generalize beamOf L p = k at *
  obtain ⟨d, hdd⟩ : ∃ d, p - placeL L.bs k = d := ⟨_, rfl⟩
  have HDD := Lib.hid hdd
  rw [hdd] at hd1
  clear hA b0 h hr p1 hk hd hl hdd
  go_enter Try.func88, Try.ntmps88
  go_wp2_with fail
  refine (checkPlace_good HE.out ⟨⟨some aj, cj⟩, ⟨some ab, cb⟩, ⟨As, cs⟩, each⟩ hL _ HA.out).mono ?_
  rintro e w1 ⟨g, rfl, hb1, hP, _⟩
  have B1 := Lib.hid ((Below.step HB.out hb1).alloc (Below.step HB.out hb1).size (.cells #[.string L.name, .slice (some aj) L.js.length cj, .slice (some ab) L.bs.length cb, .slice As L.ss.length cs, .slice (some ⟨g, 0, none⟩) L.js.length L.js.length] 119))
  have R1 := Lib.hid ((R0.out.call hb1).alloc (.cells #[.string L.name, .slice (some aj) L.js.length cj, .slice (some ab) L.bs.length cb, .slice As L.ss.length cs, .slice (some ⟨g, 0, none⟩) L.js.length L.js.length] 119))
  have C1 := Lib.hid (Bk.new w1 119 #[.string L.name, .slice (some aj) L.js.length cj, .slice (some ab) L.bs.length cb, .slice As L.ss.length cs, .slice (some ⟨g, 0, none⟩) L.js.length L.js.length])
  have P1 := Lib.hid ((hP.keep (fun p hp => World.cell?_alloc_lt w1 (.cells #[.string L.name, .slice (some aj) L.js.length cj, .slice (some ab) L.bs.length cb, .slice As L.ss.length cs, .slice (some ⟨g, 0, none⟩) L.js.length L.js.length] 119) p hp)).more (show w1.heap.size ≤ (w1.alloc (.cells #[.string L.name, .slice (some aj) L.js.length cj, .slice (some ab) L.bs.length cb, .slice As L.ss.length cs, .slice (some ⟨g, 0, none⟩) L.js.length L.js.length] 119)).heap.size by simp))
  clear hb1 hP HA HB R0
  go_wp2_with fail
  refine (beam_at HR.out ⟨⟨some aj, cj⟩, ⟨some ab, cb⟩, ⟨As, cs⟩, each⟩ ⟨g, 0, none⟩ _ p p0 pm k HK.out d HDD.out _ P1.out).mono ?_
  rintro e w2 ⟨rfl, hb2⟩
  have B2 := Lib.hid (Below.step B1.out hb2)
  have R2 := Lib.hid (R1.out.call hb2)
  obtain ⟨c0, c1, c2, c3, c4⟩ := (C1.out.call hb2).five
  obtain ⟨a0, e0, _, x0, _⟩ := (HA0.out.b.below B2.out).beam hB.out
  obtain ⟨a1, e1, _, x1, x2, x3, x4⟩ := (HA0.out.j.below B2.out).joint hJ1.out
  obtain ⟨a2, e2, _, y1, y2, y3, y4⟩ := (HA0.out.j.below B2.out).joint hJ2.out
  simp only [Option.some.injEq] at e0 e1 e2
  subst e0
  subst e1
  subst e2
  clear hb2 B1 R1 C1 P1
  have hkb' : (k : Int) < (L.bs.length : Int) := by omega
  have hkj' : (k : Int) < (L.js.length : Int) := by omega
  have hkj2' : (k : Int) + 1 < (L.js.length : Int) := by omega
  have t0 := IntWalk.i64_in ((k : Int) + 1) (by omega)
  go_wp2_with fail
  have m1 := mul_two (a := J1.x) (b := B.len) (A := 20000) (B := 30000) (by omega) (by omega)
  have m2 := mul_two (a := J2.x - J1.x) (b := d) (A := 40000) (B := 30000) (by omega) (by omega)
  have t1 := IntWalk.wrap64_in (J1.x * B.len) ⟨by omega, by omega⟩
  have t2 := IntWalk.wrap64_in ((J2.x - J1.x) * d) ⟨by omega, by omega⟩
  have t3 := IntWalk.wrap64_in (J1.x * B.len + (J2.x - J1.x) * d) ⟨by omega, by omega⟩
  have m3 : -4611686018427387904 ≤ J1.x * B.len + (J2.x - J1.x) * d := by omega
  have m4 : J1.x * B.len + (J2.x - J1.x) * d ≤ 4611686018427387904 := by omega
  have HN := Lib.hid (show J1.x * B.len + (J2.x - J1.x) * d = numAt L Lj.x p by rw [hv.out, HDD.out, HLL.out, mix_eq])
  have t4 : (0 : Int) ≤ (k : Int) + 1 := by omega
  have t5 : ((k : Int) + 1).toNat = k + 1 := by omega
  clear m1 m2
  go_region_held3 (fun w' => w'.cell? ⟨w1.heap.size, 1, none⟩ = some (.slice (some aj) L.js.length cj) ∧ w'.cell? (aj.add (k * 4)) = some (.int .i64 J1.x) ∧ w'.cell? ⟨(aj.add (k * 4)).block, (aj.add (k * 4)).off + 1, none⟩ = some (.int .i64 J1.u) ∧ w'.cell? ⟨(aj.add (k * 4)).block, (aj.add (k * 4)).off + 2, none⟩ = some (.int .i64 J1.lo) ∧ w'.cell? ⟨(aj.add (k * 4)).block, (aj.add (k * 4)).off + 3, none⟩ = some (.int .i64 J1.hi) ∧
    w'.cell? (aj.add ((k + 1) * 4)) = some (.int .i64 J2.x) ∧ w'.cell? ⟨(aj.add ((k + 1) * 4)).block, (aj.add ((k + 1) * 4)).off + 1, none⟩ = some (.int .i64 J2.u) ∧ w'.cell? ⟨(aj.add ((k + 1) * 4)).block, (aj.add ((k + 1) * 4)).off + 2, none⟩ = some (.int .i64 J2.lo) ∧ w'.cell? ⟨(aj.add ((k + 1) * 4)).block, (aj.add ((k + 1) * 4)).off + 3, none⟩ = some (.int .i64 J2.hi)) (go_keep)
    ((go_at_call 89; refine (Acr1_any _ _).mono ?_; rintro e w3 ⟨rfl, rfl⟩))
  all_goals
    clear c0 c1 c2 c3 c4 x0 x1 x2 x3 x4 y1 y2 y3 y4
    go_wp2_with fail
    refine (fraction_any _ _ m3 m4 (by omega) (by omega) _).mono ?_
    rintro e w4 ⟨rfl, hb4⟩
    have B4 := Lib.hid (Below.step (((B2.out.alloc B2.out.size _).alloc (by have := B2.out.size; simp; omega) _).drew) hb4)
    have R4 := Lib.hid ((((R2.out.alloc _).alloc _).drew).call hb4)
    obtain ⟨d0, d1, f0, f1⟩ := R4.out.two
    clear hb4 t0 t1 t2 t3
    go_wp2_with fail
    refine bodyPost_ret (v := .tuple #[lowV (numAt L Lj.x p) B.len, .int .i64 0]) (by unfold lowV; rw [← HN.out]; simp [results, Try.results88, go_sem, d0, d1]) rfl ⟨by rw [HLL.out], ?_⟩
    exact (B4.out.setCell (by simp) _).setCell (by simp) _

set_option maxHeartbeats 2000000 in
set_option maxRecDepth 100000 in
theorem readU_good {L : Ll} {p : Int} (h : plErr L p = 0) (H : Hds) (hL : L.ok) (w : World) (hA : LnAt w w.heap.size L H) :
    Calls Try.prog 88 #[(.agg #[.string L.name, .slice H.j.A L.js.length H.j.c, .slice H.b.A L.bs.length H.b.c, .slice H.s.A L.ss.length H.s.c]), .int .i64 p, .func (.func 90) #[] #[]] w fun e w' => e = .returned (.tuple #[lowV (numAt L Lj.u p) (lenL L (beamOf L p)), .int .i64 0]) ∧ Below w.heap.size w w' := by
  obtain ⟨hr, hckx, p0, p1⟩ := plErr_good h
  clear hckx
  have pm : p ≤ 2000000 := by have := (placeL_bound L.bs hr.b L.bs.length (Nat.le_refl _)).2; have := hr.most; omega
  have hk := beamOf_at hr p0
  have hd := beamOf_end hr p0 p1
  have hl := lenL_in hr hk.1
  have hkj : beamOf L p < L.js.length := by have := hr.jb; have := hk.1; omega
  have hkj2 : beamOf L p + 1 < L.js.length := by have := hr.jb; have := hk.1; omega
  have j1 := joint_up (hr.j _ (List.getElem_mem hkj))
  have j2 := joint_up (hr.j _ (List.getElem_mem hkj2))
  obtain ⟨⟨Aj, cj⟩, ⟨Ab, cb⟩, ⟨As, cs⟩, each⟩ := H
  obtain ⟨aj, haj⟩ : ∃ a, Aj = some a := by obtain ⟨a, h, _⟩ := hA.j.joint (List.getElem?_eq_getElem hkj); exact ⟨a, h⟩
  subst haj
  obtain ⟨ab, hab⟩ : ∃ a, Ab = some a := by obtain ⟨a, h, _⟩ := hA.b.beam (List.getElem?_eq_getElem hk.1); exact ⟨a, h⟩
  subst hab
  have b0 := ((Below.refl w.heap.size w).alloc (Nat.le_refl _) (.cells #[.string L.name, .slice (some aj) L.js.length cj, .slice (some ab) L.bs.length cb, .slice As L.ss.length cs] 26)).alloc (by simp) (.cells #[.int .i64 0, .int .i64 0] 46)
  have R0 := Lib.hid (Bk.new1 w (.cells #[.string L.name, .slice (some aj) L.js.length cj, .slice (some ab) L.bs.length cb, .slice As L.ss.length cs] 26) 46 #[.int .i64 0, .int .i64 0])
  have HB := Lib.hid b0
  have HA0 := Lib.hid hA
  have HA := Lib.hid ((hA.below b0).more b0.size)
  have HE := Lib.hid h
  have HK := Lib.hid hk
  have HR := Lib.hid hr
  have hkb := hk.1
  have hnb := hL.nb
  have hnj := hL.nj
  have hv := Lib.hid (show numAt L Lj.u p = L.js[beamOf L p].u * (lenL L (beamOf L p) - (p - placeL L.bs (beamOf L p))) + L.js[beamOf L p + 1].u * (p - placeL L.bs (beamOf L p)) by unfold numAt; rw [List.getElem?_eq_getElem hkj, List.getElem?_eq_getElem hkj2]; rfl)
  have HLL := Lib.hid (show lenL L (beamOf L p) = L.bs[beamOf L p].len from lenL_eq hkb)
  have HD := Lib.hid hd
  have hB := Lib.hid (List.getElem?_eq_getElem hkb)
  have hJ1 := Lib.hid (List.getElem?_eq_getElem hkj)
  have hJ2 := Lib.hid (List.getElem?_eq_getElem hkj2)
  have hl1 : 1000 ≤ L.bs[beamOf L p].len ∧ L.bs[beamOf L p].len ≤ 30000 := by rw [← HLL.out]; exact hl
  have hd1 : 0 ≤ p - placeL L.bs (beamOf L p) ∧ p - placeL L.bs (beamOf L p) ≤ L.bs[beamOf L p].len := by rw [← HLL.out]; exact hd
  generalize L.js[beamOf L p] = J1 at *
  generalize L.js[beamOf L p + 1] = J2 at *
  generalize L.bs[beamOf L p] = B at *
  generalize beamOf L p = k at *
  obtain ⟨d, hdd⟩ : ∃ d, p - placeL L.bs k = d := ⟨_, rfl⟩
  have HDD := Lib.hid hdd
  rw [hdd] at hd1
  clear hA b0 h hr p1 hk hd hl hdd
  go_enter Try.func88, Try.ntmps88
  go_wp2_with fail
  refine (checkPlace_good HE.out ⟨⟨some aj, cj⟩, ⟨some ab, cb⟩, ⟨As, cs⟩, each⟩ hL _ HA.out).mono ?_
  rintro e w1 ⟨g, rfl, hb1, hP, _⟩
  have B1 := Lib.hid ((Below.step HB.out hb1).alloc (Below.step HB.out hb1).size (.cells #[.string L.name, .slice (some aj) L.js.length cj, .slice (some ab) L.bs.length cb, .slice As L.ss.length cs, .slice (some ⟨g, 0, none⟩) L.js.length L.js.length] 119))
  have R1 := Lib.hid ((R0.out.call hb1).alloc (.cells #[.string L.name, .slice (some aj) L.js.length cj, .slice (some ab) L.bs.length cb, .slice As L.ss.length cs, .slice (some ⟨g, 0, none⟩) L.js.length L.js.length] 119))
  have C1 := Lib.hid (Bk.new w1 119 #[.string L.name, .slice (some aj) L.js.length cj, .slice (some ab) L.bs.length cb, .slice As L.ss.length cs, .slice (some ⟨g, 0, none⟩) L.js.length L.js.length])
  have P1 := Lib.hid ((hP.keep (fun p hp => World.cell?_alloc_lt w1 (.cells #[.string L.name, .slice (some aj) L.js.length cj, .slice (some ab) L.bs.length cb, .slice As L.ss.length cs, .slice (some ⟨g, 0, none⟩) L.js.length L.js.length] 119) p hp)).more (show w1.heap.size ≤ (w1.alloc (.cells #[.string L.name, .slice (some aj) L.js.length cj, .slice (some ab) L.bs.length cb, .slice As L.ss.length cs, .slice (some ⟨g, 0, none⟩) L.js.length L.js.length] 119)).heap.size by simp))
  clear hb1 hP HA HB R0
  go_wp2_with fail
  refine (beam_at HR.out ⟨⟨some aj, cj⟩, ⟨some ab, cb⟩, ⟨As, cs⟩, each⟩ ⟨g, 0, none⟩ _ p p0 pm k HK.out d HDD.out _ P1.out).mono ?_
  rintro e w2 ⟨rfl, hb2⟩
  have B2 := Lib.hid (Below.step B1.out hb2)
  have R2 := Lib.hid (R1.out.call hb2)
  obtain ⟨c0, c1, c2, c3, c4⟩ := (C1.out.call hb2).five
  obtain ⟨a0, e0, _, x0, _⟩ := (HA0.out.b.below B2.out).beam hB.out
  obtain ⟨a1, e1, _, x1, x2, x3, x4⟩ := (HA0.out.j.below B2.out).joint hJ1.out
  obtain ⟨a2, e2, _, y1, y2, y3, y4⟩ := (HA0.out.j.below B2.out).joint hJ2.out
  simp only [Option.some.injEq] at e0 e1 e2
  subst e0
  subst e1
  subst e2
  clear hb2 B1 R1 C1 P1
  have hkb' : (k : Int) < (L.bs.length : Int) := by omega
  have hkj' : (k : Int) < (L.js.length : Int) := by omega
  have hkj2' : (k : Int) + 1 < (L.js.length : Int) := by omega
  have t0 := IntWalk.i64_in ((k : Int) + 1) (by omega)
  go_wp2_with fail
  have m1 := mul_two (a := J1.u) (b := B.len) (A := 20000) (B := 30000) (by omega) (by omega)
  have m2 := mul_two (a := J2.u - J1.u) (b := d) (A := 40000) (B := 30000) (by omega) (by omega)
  have t1 := IntWalk.wrap64_in (J1.u * B.len) ⟨by omega, by omega⟩
  have t2 := IntWalk.wrap64_in ((J2.u - J1.u) * d) ⟨by omega, by omega⟩
  have t3 := IntWalk.wrap64_in (J1.u * B.len + (J2.u - J1.u) * d) ⟨by omega, by omega⟩
  have m3 : -4611686018427387904 ≤ J1.u * B.len + (J2.u - J1.u) * d := by omega
  have m4 : J1.u * B.len + (J2.u - J1.u) * d ≤ 4611686018427387904 := by omega
  have HN := Lib.hid (show J1.u * B.len + (J2.u - J1.u) * d = numAt L Lj.u p by rw [hv.out, HDD.out, HLL.out, mix_eq])
  have t4 : (0 : Int) ≤ (k : Int) + 1 := by omega
  have t5 : ((k : Int) + 1).toNat = k + 1 := by omega
  clear m1 m2
  go_region_held3 (fun w' => w'.cell? ⟨w1.heap.size, 1, none⟩ = some (.slice (some aj) L.js.length cj) ∧ w'.cell? (aj.add (k * 4)) = some (.int .i64 J1.x) ∧ w'.cell? ⟨(aj.add (k * 4)).block, (aj.add (k * 4)).off + 1, none⟩ = some (.int .i64 J1.u) ∧ w'.cell? ⟨(aj.add (k * 4)).block, (aj.add (k * 4)).off + 2, none⟩ = some (.int .i64 J1.lo) ∧ w'.cell? ⟨(aj.add (k * 4)).block, (aj.add (k * 4)).off + 3, none⟩ = some (.int .i64 J1.hi) ∧
    w'.cell? (aj.add ((k + 1) * 4)) = some (.int .i64 J2.x) ∧ w'.cell? ⟨(aj.add ((k + 1) * 4)).block, (aj.add ((k + 1) * 4)).off + 1, none⟩ = some (.int .i64 J2.u) ∧ w'.cell? ⟨(aj.add ((k + 1) * 4)).block, (aj.add ((k + 1) * 4)).off + 2, none⟩ = some (.int .i64 J2.lo) ∧ w'.cell? ⟨(aj.add ((k + 1) * 4)).block, (aj.add ((k + 1) * 4)).off + 3, none⟩ = some (.int .i64 J2.hi)) (go_keep)
    ((go_at_call 90; refine (Up1_any _ _).mono ?_; rintro e w3 ⟨rfl, rfl⟩))
  all_goals
    clear c0 c1 c2 c3 c4 x0 x1 x2 x3 x4 y1 y2 y3 y4
    go_wp2_with fail
    refine (fraction_any _ _ m3 m4 (by omega) (by omega) _).mono ?_
    rintro e w4 ⟨rfl, hb4⟩
    have B4 := Lib.hid (Below.step (((B2.out.alloc B2.out.size _).alloc (by have := B2.out.size; simp; omega) _).drew) hb4)
    have R4 := Lib.hid ((((R2.out.alloc _).alloc _).drew).call hb4)
    obtain ⟨d0, d1, f0, f1⟩ := R4.out.two
    clear hb4 t0 t1 t2 t3
    go_wp2_with fail
    refine bodyPost_ret (v := .tuple #[lowV (numAt L Lj.u p) B.len, .int .i64 0]) (by unfold lowV; rw [← HN.out]; simp [results, Try.results88, go_sem, d0, d1]) rfl ⟨by rw [HLL.out], ?_⟩
    exact (B4.out.setCell (by simp) _).setCell (by simp) _

set_option maxHeartbeats 1000000 in
theorem AcrossAt_err {L : Ll} {p er : Int} (h : plErr L p = er) (he : er ≠ 0) (H : Hds) (hL : L.ok) (w : World) (hA : LnAt w w.heap.size L H) :
    Calls Try.prog 26 #[(.agg #[.string L.name, .slice H.j.A L.js.length H.j.c, .slice H.b.A L.bs.length H.b.c, .slice H.s.A L.ss.length H.s.c]), .int .i64 p] w fun e w' => e = .returned (.tuple #[.agg #[.int .i64 0, .int .i64 0], .int .i64 er]) ∧ Below w.heap.size w w' := by
  have b0 := ((Below.refl w.heap.size w).alloc (Nat.le_refl _) (.cells #[.string L.name, .slice H.j.A L.js.length H.j.c, .slice H.b.A L.bs.length H.b.c, .slice H.s.A L.ss.length H.s.c] 26)).alloc (by simp) (.cells #[.int .i64 0, .int .i64 0] 46)
  have R0 := Lib.hid (Bk.new1 w (.cells #[.string L.name, .slice H.j.A L.js.length H.j.c, .slice H.b.A L.bs.length H.b.c, .slice H.s.A L.ss.length H.s.c] 26) 46 #[.int .i64 0, .int .i64 0])
  have HB := Lib.hid b0
  have HA := Lib.hid ((hA.below b0).more b0.size)
  have HE := Lib.hid he
  have HP := Lib.hid h
  clear hA b0 he h
  go_enter Try.func26, Try.ntmps26
  go_wp2_with (go_at_call 88; refine (readAt_err HP.out HE.out H hL _ _ HA.out).mono ?_; rintro e w1 ⟨rfl, hb1⟩; have R1 := Lib.hid (R0.out.call hb1); obtain ⟨d0, d1, f0, f1⟩ := R1.out.two)
  refine bodyPost_ret (v := .tuple #[.agg #[.int .i64 0, .int .i64 0], .int .i64 er]) (by simp [results, Try.results26, go_sem, d0, d1]) rfl ⟨rfl, ?_⟩
  exact ((Below.step HB.out hb1).setCell (by simp) _).setCell (by simp) _
set_option maxHeartbeats 1000000 in
theorem AcrossAt_good {L : Ll} {p : Int} (h : plErr L p = 0) (H : Hds) (hL : L.ok) (w : World) (hA : LnAt w w.heap.size L H) :
    Calls Try.prog 26 #[(.agg #[.string L.name, .slice H.j.A L.js.length H.j.c, .slice H.b.A L.bs.length H.b.c, .slice H.s.A L.ss.length H.s.c]), .int .i64 p] w fun e w' => e = .returned (.tuple #[lowV (numAt L Lj.x p) (lenL L (beamOf L p)), .int .i64 0]) ∧ Below w.heap.size w w' := by
  have b0 := ((Below.refl w.heap.size w).alloc (Nat.le_refl _) (.cells #[.string L.name, .slice H.j.A L.js.length H.j.c, .slice H.b.A L.bs.length H.b.c, .slice H.s.A L.ss.length H.s.c] 26)).alloc (by simp) (.cells #[.int .i64 0, .int .i64 0] 46)
  have R0 := Lib.hid (Bk.new1 w (.cells #[.string L.name, .slice H.j.A L.js.length H.j.c, .slice H.b.A L.bs.length H.b.c, .slice H.s.A L.ss.length H.s.c] 26) 46 #[.int .i64 0, .int .i64 0])
  have HB := Lib.hid b0
  have HA := Lib.hid ((hA.below b0).more b0.size)
  have HP := Lib.hid h
  clear hA b0 h
  unfold lowV
  generalize HQ : numAt L Lj.x p = n
  generalize HZ : lenL L (beamOf L p) = d
  have H1 := Lib.hid HQ
  have H2 := Lib.hid HZ
  clear HQ HZ
  go_enter Try.func26, Try.ntmps26
  go_wp2_with (go_at_call 88; refine (readX_good HP.out H hL _ HA.out).mono ?_; rintro e w1 ⟨rfl, hb1⟩; rw [H1.out, H2.out]; unfold lowV; have R1 := Lib.hid (R0.out.call hb1); obtain ⟨d0, d1, f0, f1⟩ := R1.out.two)
  refine bodyPost_ret (v := .tuple #[.agg #[.int .i64 (n.tdiv (Int.gcd n d)), .int .i64 (d / (Int.gcd n d : Int))], .int .i64 0]) (by simp [results, Try.results26, go_sem, d0, d1]) rfl ⟨rfl, ?_⟩
  exact ((Below.step HB.out hb1).setCell (by simp) _).setCell (by simp) _
set_option maxHeartbeats 1000000 in
theorem UpAt_err {L : Ll} {p er : Int} (h : plErr L p = er) (he : er ≠ 0) (H : Hds) (hL : L.ok) (w : World) (hA : LnAt w w.heap.size L H) :
    Calls Try.prog 27 #[(.agg #[.string L.name, .slice H.j.A L.js.length H.j.c, .slice H.b.A L.bs.length H.b.c, .slice H.s.A L.ss.length H.s.c]), .int .i64 p] w fun e w' => e = .returned (.tuple #[.agg #[.int .i64 0, .int .i64 0], .int .i64 er]) ∧ Below w.heap.size w w' := by
  have b0 := ((Below.refl w.heap.size w).alloc (Nat.le_refl _) (.cells #[.string L.name, .slice H.j.A L.js.length H.j.c, .slice H.b.A L.bs.length H.b.c, .slice H.s.A L.ss.length H.s.c] 26)).alloc (by simp) (.cells #[.int .i64 0, .int .i64 0] 46)
  have R0 := Lib.hid (Bk.new1 w (.cells #[.string L.name, .slice H.j.A L.js.length H.j.c, .slice H.b.A L.bs.length H.b.c, .slice H.s.A L.ss.length H.s.c] 26) 46 #[.int .i64 0, .int .i64 0])
  have HB := Lib.hid b0
  have HA := Lib.hid ((hA.below b0).more b0.size)
  have HE := Lib.hid he
  have HP := Lib.hid h
  clear hA b0 he h
  go_enter Try.func27, Try.ntmps27
  go_wp2_with (go_at_call 88; refine (readAt_err HP.out HE.out H hL _ _ HA.out).mono ?_; rintro e w1 ⟨rfl, hb1⟩; have R1 := Lib.hid (R0.out.call hb1); obtain ⟨d0, d1, f0, f1⟩ := R1.out.two)
  refine bodyPost_ret (v := .tuple #[.agg #[.int .i64 0, .int .i64 0], .int .i64 er]) (by simp [results, Try.results27, go_sem, d0, d1]) rfl ⟨rfl, ?_⟩
  exact ((Below.step HB.out hb1).setCell (by simp) _).setCell (by simp) _
set_option maxHeartbeats 1000000 in
theorem UpAt_good {L : Ll} {p : Int} (h : plErr L p = 0) (H : Hds) (hL : L.ok) (w : World) (hA : LnAt w w.heap.size L H) :
    Calls Try.prog 27 #[(.agg #[.string L.name, .slice H.j.A L.js.length H.j.c, .slice H.b.A L.bs.length H.b.c, .slice H.s.A L.ss.length H.s.c]), .int .i64 p] w fun e w' => e = .returned (.tuple #[lowV (numAt L Lj.u p) (lenL L (beamOf L p)), .int .i64 0]) ∧ Below w.heap.size w w' := by
  have b0 := ((Below.refl w.heap.size w).alloc (Nat.le_refl _) (.cells #[.string L.name, .slice H.j.A L.js.length H.j.c, .slice H.b.A L.bs.length H.b.c, .slice H.s.A L.ss.length H.s.c] 26)).alloc (by simp) (.cells #[.int .i64 0, .int .i64 0] 46)
  have R0 := Lib.hid (Bk.new1 w (.cells #[.string L.name, .slice H.j.A L.js.length H.j.c, .slice H.b.A L.bs.length H.b.c, .slice H.s.A L.ss.length H.s.c] 26) 46 #[.int .i64 0, .int .i64 0])
  have HB := Lib.hid b0
  have HA := Lib.hid ((hA.below b0).more b0.size)
  have HP := Lib.hid h
  clear hA b0 h
  unfold lowV
  generalize HQ : numAt L Lj.u p = n
  generalize HZ : lenL L (beamOf L p) = d
  have H1 := Lib.hid HQ
  have H2 := Lib.hid HZ
  clear HQ HZ
  go_enter Try.func27, Try.ntmps27
  go_wp2_with (go_at_call 88; refine (readU_good HP.out H hL _ HA.out).mono ?_; rintro e w1 ⟨rfl, hb1⟩; rw [H1.out, H2.out]; unfold lowV; have R1 := Lib.hid (R0.out.call hb1); obtain ⟨d0, d1, f0, f1⟩ := R1.out.two)
  refine bodyPost_ret (v := .tuple #[.agg #[.int .i64 (n.tdiv (Int.gcd n d)), .int .i64 (d / (Int.gcd n d : Int))], .int .i64 0]) (by simp [results, Try.results27, go_sem, d0, d1]) rfl ⟨rfl, ?_⟩
  exact ((Below.step HB.out hb1).setCell (by simp) _).setCell (by simp) _
end Go.Proofs.Ytmnlgeglmkdecaa
