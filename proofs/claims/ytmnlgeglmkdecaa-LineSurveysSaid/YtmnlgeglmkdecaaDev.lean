/-
  The walk of deviation.
-/
import Derived.Test.YtmnlgeglmkdecaaDevA
namespace Go.Proofs.Ytmnlgeglmkdecaa
open Go.RowKit

set_option maxHeartbeats 4000000 in
set_option maxRecDepth 100000 in
theorem deviation_any {L : Ll} (hr : Right L) (H : Hds) (P : Addr) (pc : Nat) (v : Lv) (p : Int) (j r q : Nat) (hl : 1000 ≤ v.len ∧ v.len ≤ 30000) (hp : 0 ≤ p) (hpt : p + v.len ≤ placeL L.bs L.bs.length) (hpm : p + v.len ≤ 2000000)
    (hrb : AtBeam L p r) (hqb : AtBeam L (p + v.len) q) (hj : j < L.js.length) (hj1 : p ≤ placeL L.bs j) (hj2 : placeL L.bs j ≤ p + v.len)
    (R Q : Lb) (hR : L.bs[r]? = some R) (hQ : L.bs[q]? = some Q) (hRl : 1000 ≤ R.len ∧ R.len ≤ 30000) (hQl : 1000 ≤ Q.len ∧ Q.len ≤ 30000) (d1 d2 al : Int) (hd1 : p - placeL L.bs r = d1) (hd2 : p + v.len - placeL L.bs q = d2) (hal : placeL L.bs j - p = al)
    (hd1' : 0 ≤ d1 ∧ d1 ≤ R.len) (hd2' : 0 ≤ d2 ∧ d2 ≤ Q.len)
    (w : World) (hA : LnAt w w.heap.size L H) (hP : Lies w w.heap.size (some P) (ic (placesL L))) :
    Calls Try.prog 113 #[(.agg #[.string L.name, .slice H.j.A L.js.length H.j.c, .slice H.b.A L.bs.length H.b.c, .slice H.s.A L.ss.length H.s.c, .slice (some P) L.js.length pc]), (.agg #[.int .i64 v.len, .int .i64 v.clear, .int .i64 v.step]), .int .i64 p, .int .i64 j] w fun e w' => e = .returned (.agg #[.int .i64 (upTo (addLo L (partsF v.len R.len Q.len d1 d2 al j r q)) r (q + 2) / (v.len * R.len * Q.len)), .int .i64 (-(-upTo (addHi L (partsF v.len R.len Q.len d1 d2 al j r q)) r (q + 2) / (v.len * R.len * Q.len)))]) ∧ Below w.heap.size w w' := by
  have h40 := hr.most
  have hjb := hr.jb
  have hr1 := hrb.1
  have hq1 := hqb.1
  have hr1' : (r : Int) < (L.bs.length : Int) := by omega
  have hq1' : (q : Int) < (L.bs.length : Int) := by omega
  have hj' : (j : Int) < (L.js.length : Int) := by omega
  have hj41 : j < 41 := by omega
  have hj41' : (j : Int) < 41 := by omega
  have hr41 : r < 41 := by omega
  have hr41' : (r : Int) < 41 := by omega
  have hs41 : r + 1 < 41 := by omega
  have hs41' : (r : Int) + 1 < 41 := by omega
  have hq41 : q < 41 := by omega
  have hq41' : (q : Int) < 41 := by omega
  have ht41 : q + 1 < 41 := by omega
  have ht41' : (q : Int) + 1 < 41 := by omega
  obtain ⟨⟨Aj, cj⟩, ⟨Ab, cb⟩, ⟨As, cs⟩, each⟩ := H
  obtain ⟨ab, hab⟩ : ∃ a, Ab = some a := by obtain ⟨a, h, _⟩ := hA.b.beam hR; exact ⟨a, h⟩
  subst hab
  obtain ⟨aj, haj⟩ : ∃ a, Aj = some a := by
    obtain ⟨a, h, _⟩ := hA.j.joint (i := j) (j := L.js[j]) (by simp [hj]); exact ⟨a, h⟩
  subst haj
  have b0 := (((Below.refl w.heap.size w).alloc (Nat.le_refl _) (.cells #[.string L.name, .slice (some aj) L.js.length cj, .slice (some ab) L.bs.length cb, .slice As L.ss.length cs, .slice (some P) L.js.length pc] 119)).alloc (by simp) (.cells #[.int .i64 v.len, .int .i64 v.clear, .int .i64 v.step] 77)).alloc (by simp; omega) (.cells #[.int .i64 0, .int .i64 0] 54)
  have X0 := Lib.hid (((Bk.new w 119 #[.string L.name, .slice (some aj) L.js.length cj, .slice (some ab) L.bs.length cb, .slice As L.ss.length cs, .slice (some P) L.js.length pc]).alloc (.cells #[.int .i64 v.len, .int .i64 v.clear, .int .i64 v.step] 77)).alloc (.cells #[.int .i64 0, .int .i64 0] 54))
  have V0 := Lib.hid ((Bk.new1 w (.cells #[.string L.name, .slice (some aj) L.js.length cj, .slice (some ab) L.bs.length cb, .slice As L.ss.length cs, .slice (some P) L.js.length pc] 119) 77 #[.int .i64 v.len, .int .i64 v.clear, .int .i64 v.step]).alloc (.cells #[.int .i64 0, .int .i64 0] 54))
  have R0 := Lib.hid (Bk.new2 w (.cells #[.string L.name, .slice (some aj) L.js.length cj, .slice (some ab) L.bs.length cb, .slice As L.ss.length cs, .slice (some P) L.js.length pc] 119) (.cells #[.int .i64 v.len, .int .i64 v.clear, .int .i64 v.step] 77) 54 #[.int .i64 0, .int .i64 0])
  have HB := Lib.hid b0
  have HP := Lib.hid ((hP.below b0).more b0.size)
  have HA := Lib.hid hA
  have HR := Lib.hid hr
  have Hrb := Lib.hid hrb
  have Hqb := Lib.hid hqb
  have Hd1 := Lib.hid hd1
  have Hd2 := Lib.hid hd2
  have Hal := Lib.hid hal
  have HhR := Lib.hid hR
  have HhQ := Lib.hid hQ
  have u1 : IntKind.i64.wrap (p + v.len) = p + v.len := IntWalk.i64_in _ (by omega)
  have u2 : IntKind.i64.wrap (placeL L.bs j - p) = al := by rw [hal]; exact IntWalk.i64_in _ (by omega)
  have SZ := Lib.hid (dev_sizes (l := v.len) (R := R.len) (Q := Q.len) (d1 := d1) (d2 := d2) (al := al) hl hRl hQl hd1' hd2' (by omega))
  have u3 : IntKind.i64.wrap (v.len * R.len) = v.len * R.len := IntWalk.i64_in _ (by have := SZ.out.1; omega)
  have u4 : IntKind.i64.wrap (v.len * R.len * Q.len) = v.len * R.len * Q.len := IntWalk.i64_in _ (by have := SZ.out.2.1; omega)
  have hlt : p + v.len ≤ 2000000 := hpm
  have hl0 : 0 ≤ p + v.len := by omega
  have hp2 : p ≤ 2000000 := by omega
  have HX := Lib.hid (And.intro hl (And.intro hpt (And.intro hj1 (And.intro hj2 (And.intro hRl (And.intro hQl (And.intro hd1' hd2')))))))
  clear hjb b0 hA hP hr hrb hqb hd1 hd2 hal hR hQ hl hpt hj1 hj2 hRl hQl hd1' hd2' hpm
  go_enter Try.func113, Try.ntmps113
  go_wp2_with fail
  refine (beam_at HR.out ⟨⟨some aj, cj⟩, ⟨some ab, cb⟩, ⟨As, cs⟩, each⟩ P pc p hp hp2 r Hrb.out d1 Hd1.out _ HP.out).mono ?_
  rintro e w1 ⟨rfl, hb1⟩
  have P1 := Lib.hid (Lies.call HP.out hb1)
  have X1 := Lib.hid (X0.out.call hb1)
  have V1 := Lib.hid (V0.out.call hb1)
  have R1 := Lib.hid (R0.out.call hb1)
  have b1 := Lib.hid (Below.step HB.out hb1)
  obtain ⟨c0, c1, c2, c3, c4⟩ := X1.out.five
  obtain ⟨v0, v1, v2⟩ := V1.out.three
  clear X0 V0 R0 HB HP hb1
  go_wp2_with fail
  refine (beam_at HR.out ⟨⟨some aj, cj⟩, ⟨some ab, cb⟩, ⟨As, cs⟩, each⟩ P pc (p + v.len) hl0 hlt q Hqb.out d2 Hd2.out _ P1.out).mono ?_
  rintro e w2 ⟨rfl, hb2⟩
  have P2 := Lib.hid (Lies.call P1.out hb2)
  have X2 := Lib.hid (X1.out.call hb2)
  have V2 := Lib.hid (V1.out.call hb2)
  have R2 := Lib.hid (R1.out.call hb2)
  have b2 := Lib.hid (Below.step b1.out hb2)
  clear c0 c1 c2 c3 c4 v0 v1 v2 X1 V1 R1 b1 P1 hb2
  obtain ⟨c0, c1, c2, c3, c4⟩ := X2.out.five
  obtain ⟨v0, v1, v2⟩ := V2.out.three
  obtain ⟨a1, e1, _, y1, _⟩ := (HA.out.b.below b2.out).beam HhR.out
  obtain ⟨a2, e2, _, y3, _⟩ := (HA.out.b.below b2.out).beam HhQ.out
  simp only [Option.some.injEq] at e1 e2
  subst e1
  subst e2
  have pl : w2.cell? (P.add j) = some (.int .i64 (placeL L.bs j)) := P2.out.place hj
  go_wp2_with fail
  go_region
  have z0 : Bk (w2.alloc (.cells #[.int .i64 0, .int .i64 0, .int .i64 0, .int .i64 0, .int .i64 0, .int .i64 0, .int .i64 0, .int .i64 0, .int .i64 0, .int .i64 0, .int .i64 0, .int .i64 0, .int .i64 0, .int .i64 0, .int .i64 0, .int .i64 0, .int .i64 0, .int .i64 0, .int .i64 0, .int .i64 0, .int .i64 0, .int .i64 0, .int .i64 0, .int .i64 0, .int .i64 0, .int .i64 0, .int .i64 0, .int .i64 0, .int .i64 0, .int .i64 0, .int .i64 0, .int .i64 0, .int .i64 0, .int .i64 0, .int .i64 0, .int .i64 0, .int .i64 0, .int .i64 0, .int .i64 0, .int .i64 0, .int .i64 0] 165)) w2.heap.size 165 (arr fun _ => 0) := by rw [arr_zero]; exact Bk.new _ _ _
  have Z0 := Lib.hid z0
  clear z0
  have z1 := Z0.out.arr_at hj41
  have z2 := Z0.out.frozen j
  go_wp2_with fail
  refine wp_abs ?_
  intro w3 h3
  obtain ⟨f3, hf3⟩ : ∃ f : Nat → Int, f = fun i => if i = j then v.len * R.len * Q.len else 0 := ⟨_, rfl⟩
  have Z3 : Hid (Bk w3 w2.heap.size 165 (arr f3)) := Lib.hid (by
    have e := arr_upd (fun _ => 0) j (v.len * R.len * Q.len)
    rw [arr_zero] at e
    simp only [List.setIfInBounds_toArray] at e
    rw [← h3, hf3]
    exact (Bk.new_eq e).drew)
  have k23 : Below w2.heap.size w2 w3 := by rw [← h3]; exact ((Below.refl _ _).alloc (Nat.le_refl _) _).drew
  have X3 := Lib.hid (X2.out.call k23)
  have V3 := Lib.hid (V2.out.call k23)
  have R3 := Lib.hid (R2.out.call k23)
  have b3 := Lib.hid (Below.step b2.out k23)
  have hg : w.heap.size + 3 ≤ w2.heap.size := R2.out.lt
  clear h3 z1 z2 Z0 k23 X2 V2 R2 b2 P2 y1 y3 pl c0 c1 c2 c3 c4 v0 v1 v2
  generalize w2.heap.size = g at *
  obtain ⟨c0, c1, c2, c3, c4⟩ := X3.out.five
  obtain ⟨v0, v1, v2⟩ := V3.out.three
  have F3 : Hid (∀ i, -0 ≤ f3 i ∧ f3 i ≤ 27000000000000) := Lib.hid (fun i => by have := SZ.out.2.1; rw [hf3]; dsimp only; split <;> omega)
  have HF3 := Lib.hid hf3
  clear hf3
  have z1 := Z3.out.arr_at hr41
  have z2 := Z3.out.frozen r
  have t1 := IntWalk.i64_in (v.len - al) (by have := HX.out.1; have := HX.out.2.2.1; have := HX.out.2.2.2.1; have := Hal.out; omega)
  have t2 := IntWalk.i64_in (R.len - d1) (by have := HX.out.2.2.2.2.1; have := HX.out.2.2.2.2.2.2.1; omega)
  have t3 := IntWalk.i64_in ((v.len - al) * (R.len - d1)) (by have := SZ.out.2.2.1; omega)
  have t4 := IntWalk.i64_in ((v.len - al) * (R.len - d1) * Q.len) (by have := SZ.out.2.2.2.1; omega)
  have t5 := IntWalk.i64_in (f3 r - (v.len - al) * (R.len - d1) * Q.len) (by have := SZ.out.2.2.2.1; have := F3.out r; omega)
  go_region
  clear z1 z2 t2 t3 t4 t5
  go_wp2_with fail
  refine wp_abs ?_
  intro w4 h4
  have Z4 : Hid (Bk w4 g 165 (arr (less f3 r ((v.len - al) * (R.len - d1) * Q.len)))) := Lib.hid (by rw [← h4]; exact (Z3.out.arr_less r _).drew)
  have F4 := Lib.hid (less_in F3.out SZ.out.2.2.2.1 r)
  have k34 : Below (w.heap.size + 3) w3 w4 := by rw [← h4]; exact ((Below.refl _ _).setCell (p := ⟨g, r, none⟩) hg _).drew
  have X4 := Lib.hid (X3.out.below k34 (by omega))
  have V4 := Lib.hid (V3.out.below k34 (by omega))
  have R4 := Lib.hid (R3.out.below k34 (by omega))
  have b4 := Lib.hid (b3.out.trans (k34.mono (by omega)))
  clear h4 k34 Z3 X3 V3 R3 b3 F3 c0 c1 c2 c3 c4 v0 v1 v2
  obtain ⟨f4, hf4⟩ : ∃ f, less f3 r ((v.len - al) * (R.len - d1) * Q.len) = f := ⟨_, rfl⟩
  rw [hf4] at Z4 F4
  have HF4 := Lib.hid hf4
  clear hf4
  obtain ⟨v0, v1, v2⟩ := V4.out.three
  have z1 := Z4.out.arr_at hs41
  have z2 := Z4.out.frozen (r + 1)
  have t2 := IntWalk.i64_in ((r : Int) + 1) (by omega)
  have t3 := IntWalk.i64_in ((v.len - al) * d1) (by have := SZ.out.2.2.2.2.1; omega)
  have t4 := IntWalk.i64_in ((v.len - al) * d1 * Q.len) (by have := SZ.out.2.2.2.2.2.1; omega)
  have t5 := IntWalk.i64_in (f4 (r + 1) - (v.len - al) * d1 * Q.len) (by have := SZ.out.2.2.2.2.2.1; have := F4.out (r + 1); omega)
  go_region
  clear z1 z2 t1 t3 t4 t5 v0 v1 v2
  generalize h5 : w4.setCell ⟨g, r + 1, none⟩ (.int .i64 (f4 (r + 1) - (v.len - al) * d1 * Q.len)) = w5
  have Z5 : Hid (Bk w5 g 165 (arr (less f4 (r + 1) ((v.len - al) * d1 * Q.len)))) := Lib.hid (by rw [← h5]; exact Z4.out.arr_less (r + 1) _)
  have F5 := Lib.hid (less_in F4.out SZ.out.2.2.2.2.2.1 (r + 1))
  have k45 : Below (w.heap.size + 3) w4 w5 := by rw [← h5]; exact (Below.refl _ _).setCell (p := ⟨g, r + 1, none⟩) hg _
  have X5 := Lib.hid (X4.out.below k45 (by omega))
  have V5 := Lib.hid (V4.out.below k45 (by omega))
  have R5 := Lib.hid (R4.out.below k45 (by omega))
  have b5 := Lib.hid (b4.out.trans (k45.mono (by omega)))
  clear h5 k45 Z4 X4 V4 R4 b4 F4
  obtain ⟨f5, hf5⟩ : ∃ f, less f4 (r + 1) ((v.len - al) * d1 * Q.len) = f := ⟨_, rfl⟩
  rw [hf5] at Z5 F5
  have HF5 := Lib.hid hf5
  clear hf5
  obtain ⟨v0, v1, v2⟩ := V5.out.three
  have z1 := Z5.out.arr_at hq41
  have z2 := Z5.out.frozen q
  have z3 := Z5.out.arr_at ht41
  have z4 := Z5.out.frozen (q + 1)
  have t3 := IntWalk.i64_in ((q : Int) + 1) (by omega)
  have t4 := IntWalk.i64_in (Q.len - d2) (by have := HX.out.2.2.2.2.2.1; have := HX.out.2.2.2.2.2.2.2; omega)
  have t5 := IntWalk.i64_in (al * (Q.len - d2)) (by have := SZ.out.2.2.2.2.2.2.1; omega)
  have t6 := IntWalk.i64_in (al * (Q.len - d2) * R.len) (by have := SZ.out.2.2.2.2.2.2.2.1; omega)
  have t7 := IntWalk.i64_in (f5 q - al * (Q.len - d2) * R.len) (by have := SZ.out.2.2.2.2.2.2.2.1; have := F5.out q; omega)
  have t8 := IntWalk.i64_in (al * d2) (by have := SZ.out.2.2.2.2.2.2.2.2.1; omega)
  have t9 := IntWalk.i64_in (al * d2 * R.len) (by have := SZ.out.2.2.2.2.2.2.2.2.2; omega)
  have t10 := IntWalk.i64_in (f5 (q + 1) - al * d2 * R.len) (by have := SZ.out.2.2.2.2.2.2.2.2.2; have := F5.out (q + 1); omega)
  have t11 : IntKind.i64.wrap 0 = 0 := by decide
  go_wp2_with fail
  generalize h6 : (w5.setCell ⟨g, q, none⟩ (.int .i64 (f5 q - al * (Q.len - d2) * R.len))).setCell ⟨g, q + 1, none⟩ (.int .i64 (f5 (q + 1) - al * d2 * R.len)) = w6
  have Z6 : Hid (Bk w6 g 165 (arr (less (less f5 q (al * (Q.len - d2) * R.len)) (q + 1) (al * d2 * R.len)))) := Lib.hid (by
    have e : less f5 q (al * (Q.len - d2) * R.len) (q + 1) = f5 (q + 1) := by simp [less]
    rw [← h6, ← e]
    exact (Z5.out.arr_less q _).arr_less (q + 1) _)
  have F6 := Lib.hid (less_in (less_in F5.out SZ.out.2.2.2.2.2.2.2.1 q) SZ.out.2.2.2.2.2.2.2.2.2 (q + 1))
  have k56 : Below (w.heap.size + 3) w5 w6 := by rw [← h6]; exact ((Below.refl _ _).setCell (p := ⟨g, q, none⟩) hg _).setCell (p := ⟨g, q + 1, none⟩) hg _
  have X6 := Lib.hid (X5.out.below k56 (by omega))
  have V6 := Lib.hid (V5.out.below k56 (by omega))
  have R6 := Lib.hid (R5.out.below k56 (by omega))
  have b6 := Lib.hid (b5.out.trans (k56.mono (by omega)))
  clear h6 k56 Z5 X5 V5 R5 b5 F5 v0 v1 v2 z1 z2 z3 z4 t3 t4 t5 t6 t7 t8 t9 t10 t11
  obtain ⟨f6, hf6⟩ : ∃ f, less (less f5 q (al * (Q.len - d2) * R.len)) (q + 1) (al * d2 * R.len) = f := ⟨_, rfl⟩
  rw [hf6] at Z6 F6
  have HF6 := Lib.hid hf6
  clear hf6
  have SS : Hid (∀ n, r ≤ n → upTo (sizes f6) r n ≤ 135000000000000) := Lib.hid (fun n hn => by
    rw [← HF6.out]
    refine sizes_less' (a := 108000000000000) (c := 27000000000000) hn (sizes_less' (a := 81000000000000) (c := 27000000000000) hn ?_ SZ.out.2.2.2.2.2.2.2.1) SZ.out.2.2.2.2.2.2.2.2.2
    rw [← HF5.out]
    refine sizes_less' (a := 54000000000000) (c := 27000000000000) hn ?_ SZ.out.2.2.2.2.2.1
    rw [← HF4.out]
    refine sizes_less' (a := 27000000000000) (c := 27000000000000) hn ?_ SZ.out.2.2.2.1
    rw [HF3.out]
    exact sizes_one SZ.out.2.1 hn)
  have HJ : Hid (L.js.length = L.bs.length + 1) := Lib.hid HR.out.jb
  go_loopw [18, 19, 20] (fun lo hi i wr => ∃ k : Nat, r ≤ k ∧ k ≤ q + 2 ∧ i = .int .i64 k ∧ lo = .int .i64 (upTo (addLo L f6) r k) ∧ hi = .int .i64 (upTo (addHi L f6) r k) ∧ Below w6.heap.size w6 wr) (fun _ _ i _ => q + 2 - (intOf i).toNat)
  case atStart => exact ⟨r, Nat.le_refl _, by have h1 := Hqb.out.2.2 r; have h2 := Hrb.out.2.1; have h3 := HX.out.1; omega, rfl, by rw [upTo_self], by rw [upTo_self], (Below.refl _ _).drew⟩
  case round =>
    obtain ⟨k, hk1, hk2, rfl, rfl, rfl, hb⟩ := hrel
    have HB := Lib.hid hb
    clear hb
    have t1 := IntWalk.i64_in ((q : Int) + 1) (by omega)
    by_cases hlt : k ≤ q + 1
    · have hkl : k < L.js.length := by have := HJ.out; omega
      have hkl' : (k : Int) < (L.js.length : Int) := by omega
      have hk41 : k < 41 := by omega
      have hk41' : (k : Int) < 41 := by omega
      have bw := Lib.hid (Below.step b6.out HB.out)
      obtain ⟨z, e, _, x0, _, x2, x3⟩ := (HA.out.j.below bw.out).joint (List.getElem?_eq_getElem hkl)
      simp only [Option.some.injEq] at e
      subst e
      obtain ⟨c0, c1, c2, c3, c4⟩ := (X6.out.call HB.out).five
      have y0 := (Z6.out.call HB.out).arr_at hk41
      have keep : ∀ (p : Addr) (v : Value), wr.cell? p = some v → ∀ A : Obj, (wr.alloc A).cell? p = some v := fun p v h A =>
        (World.cell?_alloc_lt _ _ p (cell_lt h)).trans h
      have k1 := keep _ _ c1
      have k2 := keep _ _ x0
      have k3 := keep _ _ x2
      have k4 := keep _ _ x3
      have k5 := keep _ _ y0
      have jn := joint_in (HR.out.j _ (List.getElem_mem hkl))
      have gs := F6.out k
      have lo1 := upTo_le (addLo_in HR.out f6) hk1
      have hi1 := upTo_le (addHi_in HR.out f6) hk1
      have s1 := SS.out k hk1
      have lo2 := addLo_in HR.out f6 k
      have hi2 := addHi_in HR.out f6 k
      have aL := addLo_at (f := f6) (List.getElem?_eq_getElem hkl)
      have aH := addHi_at (f := f6) (List.getElem?_eq_getElem hkl)
      have sk : sizes f6 k ≤ 135000000000000 := by unfold sizes; omega
      have uL := upTo_succ (addLo L f6) hk1
      have uH := upTo_succ (addHi L f6) hk1
      have t2 := IntWalk.i64_in ((k : Int) + 1) (by omega)
      clear keep c0 c2 c3 c4
      by_cases hneg : f6 k < 0
      · rw [if_pos hneg] at aL aH
        have t3 := IntWalk.i64_in (L.js[k].x + L.js[k].hi) (by omega)
        have t4 := IntWalk.i64_in (L.js[k].x + L.js[k].lo) (by omega)
        have t5 : IntKind.i64.wrap (f6 k * (L.js[k].x + L.js[k].hi)) = addLo L f6 k := by rw [← aL]; exact IntWalk.i64_in _ (by omega)
        have t6 : IntKind.i64.wrap (f6 k * (L.js[k].x + L.js[k].lo)) = addHi L f6 k := by rw [← aH]; exact IntWalk.i64_in _ (by omega)
        have t7 : IntKind.i64.wrap (upTo (addLo L f6) r k + addLo L f6 k) = upTo (addLo L f6) r (k + 1) := by rw [uL]; exact IntWalk.i64_in _ (by omega)
        have t8 : IntKind.i64.wrap (upTo (addHi L f6) r k + addHi L f6 k) = upTo (addHi L f6) r (k + 1) := by rw [uH]; exact IntWalk.i64_in _ (by omega)
        clear aL aH uL uH lo1 hi1 lo2 hi2 s1 sk gs jn
        go_wp2_with fail
        go_region
        go_wp2_with fail
        go_region
        go_wp2_with fail
        go_region
        go_wp2_with fail
        go_roundw
        case rel => exact ⟨k + 1, by omega, by omega, by go_num, rfl, rfl, (HB.out.alloc HB.out.size _).drew.drew.drew⟩
        case measure => simp [intOf]; omega
      · rw [if_neg hneg] at aL aH
        have t3 := IntWalk.i64_in (L.js[k].x + L.js[k].lo) (by omega)
        have t4 := IntWalk.i64_in (L.js[k].x + L.js[k].hi) (by omega)
        have t5 : IntKind.i64.wrap (f6 k * (L.js[k].x + L.js[k].lo)) = addLo L f6 k := by rw [← aL]; exact IntWalk.i64_in _ (by omega)
        have t6 : IntKind.i64.wrap (f6 k * (L.js[k].x + L.js[k].hi)) = addHi L f6 k := by rw [← aH]; exact IntWalk.i64_in _ (by omega)
        have t7 : IntKind.i64.wrap (upTo (addLo L f6) r k + addLo L f6 k) = upTo (addLo L f6) r (k + 1) := by rw [uL]; exact IntWalk.i64_in _ (by omega)
        have t8 : IntKind.i64.wrap (upTo (addHi L f6) r k + addHi L f6 k) = upTo (addHi L f6) r (k + 1) := by rw [uH]; exact IntWalk.i64_in _ (by omega)
        clear aL aH uL uH lo1 hi1 lo2 hi2 s1 sk gs jn
        go_wp2_with fail
        go_region
        go_wp2_with fail
        go_region
        go_wp2_with fail
        go_region
        go_wp2_with fail
        go_roundw
        case rel => exact ⟨k + 1, by omega, by omega, by go_num, rfl, rfl, (HB.out.alloc HB.out.size _).drew.drew.drew⟩
        case measure => simp [intOf]; omega
    · obtain rfl : k = q + 2 := by omega
      have lo1 := upTo_le (addLo_in HR.out f6) hk1
      have hi1 := upTo_le (addHi_in HR.out f6) hk1
      have s1 := SS.out _ hk1
      have w1 : 1 ≤ v.len * R.len * Q.len := Int.mul_pos (Int.mul_pos (by have := HX.out.1; omega) (by have := HX.out.2.2.2.2.1; omega)) (by have := HX.out.2.2.2.2.2.1; omega)
      have w2 := SZ.out.2.1
      have f1 : -9223372036854775807 ≤ upTo (addLo L f6) r (q + 2) ∧ upTo (addLo L f6) r (q + 2) ≤ 9223372036854775807 := by omega
      have f2 : -9223372036854775807 ≤ upTo (addHi L f6) r (q + 2) ∧ upTo (addHi L f6) r (q + 2) ≤ 9223372036854775807 := by omega
      have w3 : v.len * R.len * Q.len ≤ 9223372036854775807 := by omega
      clear lo1 hi1 s1 w2
      obtain ⟨g0, g1, g2, g3⟩ := (R6.out.call HB.out).two
      have hf := Lib.hid (show f6 = partsF v.len R.len Q.len d1 d2 al j r q by rw [← HF6.out, ← HF5.out, ← HF4.out, HF3.out]; rfl)
      go_wp2_with (first | (go_at_call 137; refine (floor_any _ _ f1.1 f1.2 w1 w3 _).mono ?_; rintro e w' ⟨rfl, rfl⟩) | (go_at_call 138; refine (ceiling_any _ _ f2.1 f2.2 w1 w3 _).mono ?_; rintro e w' ⟨rfl, rfl⟩))
      rw [← hf.out]
      refine bodyPost_ret (v := .agg #[.int .i64 (upTo (addLo L f6) r (q + 2) / (v.len * R.len * Q.len)), .int .i64 (-(-upTo (addHi L f6) r (q + 2) / (v.len * R.len * Q.len)))]) (by simp [results, Try.results113, go_sem, g0, g1]) rfl ⟨rfl, ?_⟩
      exact ((Below.step b6.out HB.out).setCell (by simp; omega) _).setCell (by simp; omega) _
end Go.Proofs.Ytmnlgeglmkdecaa
