/-
  The reference's deviation: plain facts about sums; the walk of its DeviationAt.
-/
import Derived.Test.YtmnlgeglmkdecaaPlAt
import Derived.Deep.OwnRows
namespace Go.Proofs.Ytmnlgeglmkdecaa
open Go.RowKit

theorem upTo_split (g : Nat → Int) {r m k : Nat} (h1 : r ≤ m) (h2 : m ≤ k) : upTo g r k = upTo g r m + upTo g m k := by
  obtain ⟨d, rfl⟩ := Nat.exists_eq_add_of_le h2
  clear h2
  induction d with
  | zero => rw [Nat.add_zero, upTo_self]; omega
  | succ d ih => rw [← Nat.add_assoc, upTo_succ _ (by omega), upTo_succ _ (by omega), ih]; omega
theorem upTo_zero {g : Nat → Int} {r k : Nat} (h1 : r ≤ k) (h : ∀ i, r ≤ i → i < k → g i = 0) : upTo g r k = 0 := by
  obtain ⟨d, rfl⟩ := Nat.exists_eq_add_of_le h1
  clear h1
  induction d with
  | zero => rw [Nat.add_zero, upTo_self]
  | succ d ih => rw [← Nat.add_assoc, upTo_succ _ (by omega), ih (fun i a b => h i a (by omega)), h (r + d) (by omega) (by omega)]; omega
theorem partsF_out {l R Q d1 d2 al : Int} {j r q i : Nat} (hj : i ≠ j) (h1 : i ≠ r) (h2 : i ≠ r + 1) (h3 : i ≠ q) (h4 : i ≠ q + 1) : partsF l R Q d1 d2 al j r q i = 0 := by
  unfold partsF less
  simp only [if_neg hj, if_neg h1, if_neg h2, if_neg h3, if_neg h4]
theorem addLo_zero {L : Ll} {f : Nat → Int} {i : Nat} (h : f i = 0) : addLo L f i = 0 := by
  unfold addLo; split
  · rw [h]; simp
  · rfl
theorem addHi_zero {L : Ll} {f : Nat → Int} {i : Nat} (h : f i = 0) : addHi L f i = 0 := by
  unfold addHi; split
  · rw [h]; simp
  · rfl
/-- The rear beam is no further than the front one, and a joint in between is one of theirs. -/
theorem beams_order {L : Ll} (hr : Right L) {p n : Int} (p0 : 0 ≤ p) (n0 : 0 ≤ n) (hT : p + n ≤ placeL L.bs L.bs.length) : beamOf L p ≤ beamOf L (p + n) := by
  obtain ⟨a, b, c⟩ := beamOf_at hr p0
  obtain ⟨a', b', c'⟩ := beamOf_at hr (show 0 ≤ p + n by omega)
  by_cases h : beamOf L p ≤ beamOf L (p + n)
  · exact h
  · have := c' (beamOf L p) (by omega) a; omega
theorem joint_order {L : Ll} (hr : Right L) {p n : Int} (p0 : 0 ≤ p) (n0 : 0 ≤ n) {j : Nat} (hj : j < L.js.length) (h1 : p ≤ placeL L.bs j) (h2 : placeL L.bs j ≤ p + n) : beamOf L p ≤ j ∧ j ≤ beamOf L (p + n) + 1 := by
  obtain ⟨a, b, c⟩ := beamOf_at hr p0
  obtain ⟨a', b', c'⟩ := beamOf_at hr (show 0 ≤ p + n by omega)
  have hjb := hr.jb
  constructor
  · by_cases h : beamOf L p ≤ j
    · exact h
    · have := placeL_lt hr (show j < beamOf L p by omega) (by omega); omega
  · by_cases h : j ≤ beamOf L (p + n) + 1
    · exact h
    · have e1 := c' (beamOf L (p + n) + 1) (by omega) (by omega)
      have e2 := placeL_lt hr (show beamOf L (p + n) + 1 < j by omega) (by omega)
      omega
/-- All joints together count what those from the rear beam to the front beam do. -/
theorem dev_all {L : Ll} (hr : Right L) {v : Lv} {p : Int} {j : Nat} (p0 : 0 ≤ p) (n0 : 0 ≤ v.len) (hT : p + v.len ≤ placeL L.bs L.bs.length) (hj : j < L.js.length) (h1 : p ≤ placeL L.bs j) (h2 : placeL L.bs j ≤ p + v.len) :
    upTo (addLo L (devF L v p j)) 0 L.js.length = upTo (addLo L (devF L v p j)) (beamOf L p) (beamOf L (p + v.len) + 2) ∧
    upTo (addHi L (devF L v p j)) 0 L.js.length = upTo (addHi L (devF L v p j)) (beamOf L p) (beamOf L (p + v.len) + 2) := by
  have o1 := beams_order hr p0 n0 hT
  obtain ⟨o2, o3⟩ := joint_order hr p0 n0 hj h1 h2
  have a' := (beamOf_at hr (show 0 ≤ p + v.len by omega)).1
  have hjb := hr.jb
  have z : ∀ i, i < beamOf L p ∨ beamOf L (p + v.len) + 2 ≤ i → devF L v p j i = 0 := fun i hi => by
    unfold devF
    exact partsF_out (by omega) (by omega) (by omega) (by omega) (by omega)
  constructor
  · rw [upTo_split _ (Nat.zero_le _) (show beamOf L p ≤ L.js.length by omega), upTo_split _ (show beamOf L p ≤ beamOf L (p + v.len) + 2 by omega) (show beamOf L (p + v.len) + 2 ≤ L.js.length by omega),
      upTo_zero (Nat.zero_le _) (fun i _ h => addLo_zero (z i (by omega))), upTo_zero (show beamOf L (p + v.len) + 2 ≤ L.js.length by omega) (fun i h _ => addLo_zero (z i (by omega)))]
    omega
  · rw [upTo_split _ (Nat.zero_le _) (show beamOf L p ≤ L.js.length by omega), upTo_split _ (show beamOf L p ≤ beamOf L (p + v.len) + 2 by omega) (show beamOf L (p + v.len) + 2 ≤ L.js.length by omega),
      upTo_zero (Nat.zero_le _) (fun i _ h => addHi_zero (z i (by omega))), upTo_zero (show beamOf L (p + v.len) + 2 ≤ L.js.length by omega) (fun i h _ => addHi_zero (z i (by omega)))]
    omega
/-- The lesser and the greater of a joint's two ends, times its weight. -/
theorem addLo_min {L : Ll} {f : Nat → Int} {i : Nat} {j : Lj} (hj : L.js[i]? = some j) (h : j.lo ≤ j.hi) : addLo L f i = min (f i * (j.x + j.lo)) (f i * (j.x + j.hi)) ∧ addHi L f i = max (f i * (j.x + j.lo)) (f i * (j.x + j.hi)) := by
  rw [addLo_at hj, addHi_at hj]
  by_cases hf : f i < 0
  · have := Int.mul_le_mul_of_nonpos_left (a := f i) (show f i ≤ 0 by omega) (show j.x + j.lo ≤ j.x + j.hi by omega)
    rw [if_pos hf, if_pos hf]; omega
  · have := Int.mul_le_mul_of_nonneg_left (show j.x + j.lo ≤ j.x + j.hi by omega) (show 0 ≤ f i by omega)
    rw [if_neg hf, if_neg hf]; omega

set_option maxHeartbeats 400000 in
theorem Ceil_any (a b : Int) (ha : -9223372036854775807 ≤ a) (ha' : a ≤ 9223372036854775807) (hb : 1 ≤ b) (hb' : b ≤ 9223372036854775807) (w : World) :
    Calls Try.prog 115 #[.int .i64 a, .int .i64 b] w fun e w' => e = .returned (.int .i64 (-(-a / b))) ∧ w = w' := by
  have h1 : -9223372036854775807 ≤ -a / b ∧ -a / b ≤ 9223372036854775807 := by
    constructor
    · exact Int.le_trans (by omega) (Int.le_ediv_of_mul_le (c := b) (a := -9223372036854775807) (b := -a) (by omega) (by omega))
    · exact Int.ediv_le_of_le_mul (by omega) (by omega)
  have t1 := IntWalk.i64_in (-a) (by omega)
  have t2 := IntWalk.i64_in (-(-a / b)) (by omega)
  go_enter Try.func115, Try.ntmps115
  go_wp2_with (go_at_call 114; refine (Floor_any (-a) b (by omega) (by omega) hb hb' _).mono ?_; rintro e w' ⟨rfl, rfl⟩)
  go_ret
  exact ⟨rfl, rfl⟩

/-- A call with a line, a vehicle and a range of its own. -/
structure DF (w W : World) (L : Ll) (H : Hds) (v : Lv) : Prop where
  box : Bk W w.heap.size 26 #[.string L.name, .slice H.j.A L.js.length H.j.c, .slice H.b.A L.bs.length H.b.c, .slice H.s.A L.ss.length H.s.c]
  veh : Bk W (w.heap.size + 1) 77 #[.int .i64 v.len, .int .i64 v.clear, .int .i64 v.step]
  res : Bk W (w.heap.size + 2) 54 #[.int .i64 0, .int .i64 0]
  bl : Below w.heap.size w W
  ln : LnAt W w.heap.size L H
section
variable {w W W' : World} {L : Ll} {H : Hds} {v : Lv}
theorem DF.lnW (h : DF w W L H v) : LnAt W W.heap.size L H := h.ln.more h.bl.size
theorem DF.call (h : DF w W L H v) (hb : Below W.heap.size W W') : DF w W' L H v := ⟨h.box.call hb, h.veh.call hb, h.res.call hb, Below.step h.bl hb, h.ln.below (hb.mono h.bl.size)⟩
theorem DF.alloc (h : DF w W L H v) (o : Obj) : DF w (W.alloc o) L H v := h.call ((Below.refl _ W).alloc (Nat.le_refl _) o)
theorem DF.drew (h : DF w W L H v) : DF w W.drew L H v := ⟨h.box, h.veh, h.res, h.bl.drew, h.ln.keep (fun _ _ => rfl)⟩
theorem DF.set (h : DF w W L H v) {p : Addr} (hp : w.heap.size + 3 ≤ p.block) (u : Value) : DF w (W.setCell p u) L H v :=
  ⟨h.box.far (by omega) _, h.veh.far (by omega) _, h.res.far (by omega) _, h.bl.setCell (by omega) _, h.ln.below ((Below.refl _ W).setCell (by omega) _)⟩
theorem DF.size (h : DF w W L H v) : w.heap.size + 3 ≤ W.heap.size := h.res.lt
end
/-- A row of numbers. -/
def RowF (W : World) (g n : Nat) (f : Nat → Int) : Prop := W.rowIs g 3 n (fun i => .int .i64 (f i))
theorem RowF.less {W : World} {g n : Nat} {f : Nat → Int} (h : RowF W g n f) (k : Nat) (x : Int) : RowF (W.setCell ⟨g, k, none⟩ (.int .i64 (f k - x))) g n (less f k x) :=
  (World.rowIs.set h k _).congr (fun i _ => by
    unfold Go.Proofs.Ytmnlgeglmkdecaa.less
    by_cases e : i = k
    · subst e; simp
    · simp [e])
theorem RowF.one {W : World} {g n : Nat} (h : RowF W g n (fun _ => 0)) (k : Nat) (x : Int) : RowF (W.setCell ⟨g, k, none⟩ (.int .i64 x)) g n (fun i => if i = k then x else 0) :=
  (World.rowIs.set h k _).congr (fun i _ => by
    by_cases e : i = k
    · subst e; simp
    · simp [e])
theorem RowF.drew {W : World} {g n : Nat} {f : Nat → Int} (h : RowF W g n f) : RowF W.drew g n f := h
theorem RowF.at_ {W : World} {g n : Nat} {f : Nat → Int} (h : RowF W g n f) {k : Nat} (hk : k < n) : W.cell? ⟨g, k, none⟩ = some (.int .i64 (f k)) := World.rowIs.cell h hk
theorem RowF.frozen {W : World} {g n : Nat} {f : Nat → Int} (h : RowF W g n f) (k : Nat) : W.frozen? ⟨g, k, none⟩ = false := World.rowIs.frozen h k
theorem RowF.below {B : Nat} {W W' : World} {g n : Nat} {f : Nat → Int} (h : RowF W g n f) (hb : Below B W W') (hg : g < B) : RowF W' g n f := World.rowIs.of_block h (hb.block g hg)

set_option maxHeartbeats 8000000 in
set_option maxRecDepth 100000 in
theorem refDev_sum {L : Ll} (hr : Right L) (H : Hds) (hL : L.ok) (v : Lv) (hv : vErr v = 0) (p : Int) (j r q : Nat) (hp : 0 ≤ p) (hpt : p + v.len ≤ placeL L.bs L.bs.length) (hrb : beamOf L p = r) (hqb : beamOf L (p + v.len) = q) (hj : j < L.js.length) (hj1 : p ≤ placeL L.bs j) (hj2 : placeL L.bs j ≤ p + v.len)
    (R Q d1 d2 al : Int) (hR : lenL L r = R) (hQ : lenL L q = Q) (hd1 : p - placeL L.bs r = d1) (hd2 : p + v.len - placeL L.bs q = d2) (hal : placeL L.bs j - p = al) (w : World) (hA : LnAt w w.heap.size L H) :
    Calls Try.prog 59 #[(.agg #[.string L.name, .slice H.j.A L.js.length H.j.c, .slice H.b.A L.bs.length H.b.c, .slice H.s.A L.ss.length H.s.c]), (.agg #[.int .i64 v.len, .int .i64 v.clear, .int .i64 v.step]), .int .i64 p, .int .i64 j] w fun e w' => e = .returned (.agg #[.int .i64 (upTo (addLo L (partsF v.len R Q d1 d2 al j r q)) 0 L.js.length / (v.len * R * Q)), .int .i64 (-(-upTo (addHi L (partsF v.len R Q d1 d2 al j r q)) 0 L.js.length / (v.len * R * Q)))]) ∧ Below w.heap.size w w' := by
  have h40 := hr.most
  have hjb := hr.jb
  obtain ⟨hl, _⟩ := vErr_in hv
  have q0 : 0 ≤ p + v.len := by omega
  have hrk : r < L.bs.length := by rw [← hrb]; exact (beamOf_at hr hp).1
  have hqk : q < L.bs.length := by rw [← hqb]; exact (beamOf_at hr q0).1
  have hpb := (placeL_bound L.bs hr.b L.bs.length (Nat.le_refl _)).2
  have hpm : p + v.len ≤ 2000000 := by omega
  have hp2 : p ≤ 2000000 := by omega
  have e1 := beamOf_end hr hp (by omega)
  have e2 := beamOf_end hr q0 hpt
  rw [hrb, hd1, hR] at e1
  rw [hqb, hd2, hQ] at e2
  have hRl := lenL_in hr hrk
  have hQl := lenL_in hr hqk
  rw [hR] at hRl
  rw [hQ] at hQl
  have hr1' : (r : Int) < (L.bs.length : Int) := by omega
  have hq1' : (q : Int) < (L.bs.length : Int) := by omega
  have hj' : (j : Int) < (L.js.length : Int) := by omega
  have hrj : r < L.js.length := by omega
  have hrj' : (r : Int) < (L.js.length : Int) := by omega
  have hrs : r + 1 < L.js.length := by omega
  have hrs' : (r : Int) + 1 < (L.js.length : Int) := by omega
  have hqj : q < L.js.length := by omega
  have hqj' : (q : Int) < (L.js.length : Int) := by omega
  have hqs : q + 1 < L.js.length := by omega
  have hqs' : (q : Int) + 1 < (L.js.length : Int) := by omega
  obtain ⟨aj, haj⟩ : ∃ a, H.j.A = some a := by obtain ⟨a, h, _⟩ := hA.j.joint (List.getElem?_eq_getElem hj); exact ⟨a, h⟩
  obtain ⟨ab, hab⟩ : ∃ a, H.b.A = some a := by obtain ⟨a, h, _⟩ := hA.b.beam (List.getElem?_eq_getElem hrk); exact ⟨a, h⟩
  obtain ⟨⟨Aj, cj⟩, ⟨Ab, cb⟩, ⟨As, cs⟩, each⟩ := H
  obtain rfl : Aj = some aj := haj
  obtain rfl : Ab = some ab := hab
  have b0 := (((Below.refl w.heap.size w).alloc (Nat.le_refl _) (.cells #[.string L.name, .slice (some aj) L.js.length cj, .slice (some ab) L.bs.length cb, .slice As L.ss.length cs] 26)).alloc (by simp) (.cells #[.int .i64 v.len, .int .i64 v.clear, .int .i64 v.step] 77)).alloc (by simp; omega) (.cells #[.int .i64 0, .int .i64 0] 54)
  have D0 := Lib.hid (DF.mk (v := v) (((Bk.new w 26 #[.string L.name, .slice (some aj) L.js.length cj, .slice (some ab) L.bs.length cb, .slice As L.ss.length cs]).alloc (.cells #[.int .i64 v.len, .int .i64 v.clear, .int .i64 v.step] 77)).alloc (.cells #[.int .i64 0, .int .i64 0] 54)) ((Bk.new1 w (.cells #[.string L.name, .slice (some aj) L.js.length cj, .slice (some ab) L.bs.length cb, .slice As L.ss.length cs] 26) 77 #[.int .i64 v.len, .int .i64 v.clear, .int .i64 v.step]).alloc (.cells #[.int .i64 0, .int .i64 0] 54))
    (Bk.new2 w (.cells #[.string L.name, .slice (some aj) L.js.length cj, .slice (some ab) L.bs.length cb, .slice As L.ss.length cs] 26) (.cells #[.int .i64 v.len, .int .i64 v.clear, .int .i64 v.step] 77) 54 #[.int .i64 0, .int .i64 0]) b0 (hA.below b0) : DF w _ L ⟨⟨some aj, cj⟩, ⟨some ab, cb⟩, ⟨As, cs⟩, each⟩ v)
  have HR := Lib.hid hr
  have HK1 : Hid ((beamOf L p : Int) = (r : Int)) := Lib.hid (by rw [hrb])
  have HK2 : Hid ((beamOf L (p + v.len) : Int) = (q : Int)) := Lib.hid (by rw [hqb])
  have HD1 : Hid (p - placeL L.bs (beamOf L p) = d1) := Lib.hid (by rw [hrb]; exact hd1)
  have HD2 : Hid (p + v.len - placeL L.bs (beamOf L (p + v.len)) = d2) := Lib.hid (by rw [hqb]; exact hd2)
  have Hal := Lib.hid hal
  have hB1 := Lib.hid (List.getElem?_eq_getElem hrk)
  have hB2 := Lib.hid (List.getElem?_eq_getElem hqk)
  have hR2 := hR
  have hQ2 := hQ
  rw [lenL_eq hrk] at hR2
  rw [lenL_eq hqk] at hQ2
  have HRL := Lib.hid hR2
  have HQL := Lib.hid hQ2
  have SZ := Lib.hid (dev_sizes (l := v.len) (R := R) (Q := Q) (d1 := d1) (d2 := d2) (al := al) hl hRl hQl e1 e2 (by omega))
  have u1 : IntKind.i64.wrap (p + v.len) = p + v.len := IntWalk.i64_in _ (by omega)
  have u2 : IntKind.i64.wrap (placeL L.bs j - p) = al := by rw [hal]; exact IntWalk.i64_in _ (by omega)
  have u3 : IntKind.i64.wrap (v.len * R) = v.len * R := IntWalk.i64_in _ (by have := SZ.out.1; omega)
  have u4 : IntKind.i64.wrap (v.len * R * Q) = v.len * R * Q := IntWalk.i64_in _ (by have := SZ.out.2.1; omega)
  have HX := Lib.hid (And.intro hl (And.intro hj1 (And.intro hj2 (And.intro hRl (And.intro hQl (And.intro e1 e2))))))
  have hmk := run_make_row' (P := Try.prog) 67 3 (.int .i64 0) 8 Try.underlying67 (by kernel_rfl) rfl .i64 .i64 L.js.length (by omega) (by omega)
  have hn41 : L.js.length ≤ 41 := by omega
  have hjn0 : (0 : Int) ≤ (j : Int) := by omega
  have hjn : (j : Int) ≤ (L.bs.length : Int) := by omega
  clear hjb b0 hA hr hrb hqb hd1 hd2 hal hR hQ hR2 hQ2 hl hpt hj1 hj2 hRl hQl e1 e2 hpb hv
  go_enter Try.func59, Try.ntmps59
  go_wp2_with fail
  refine (refBeamAt_at HR.out hp hp2 HK1.out HD1.out ⟨⟨some aj, cj⟩, ⟨some ab, cb⟩, ⟨As, cs⟩, each⟩ hL _ D0.out.lnW).mono ?_
  rintro e w1 ⟨rfl, hb1⟩
  have D1 := Lib.hid (D0.out.call hb1)
  obtain ⟨c0, c1, c2, c3⟩ := D1.out.box.four
  obtain ⟨v0, v1, v2⟩ := D1.out.veh.three
  clear hb1 D0
  go_wp2_with fail
  refine (refBeamAt_at HR.out q0 hpm HK2.out HD2.out ⟨⟨some aj, cj⟩, ⟨some ab, cb⟩, ⟨As, cs⟩, each⟩ hL _ D1.out.lnW).mono ?_
  rintro e w2 ⟨rfl, hb2⟩
  have D2 := Lib.hid (D1.out.call hb2)
  clear c0 c1 c2 c3 v0 v1 v2 hb2 D1
  obtain ⟨c0, c1, c2, c3⟩ := D2.out.box.four
  obtain ⟨v0, v1, v2⟩ := D2.out.veh.three
  obtain ⟨a1, f1, _, y1, _⟩ := D2.out.ln.b.beam hB1.out
  obtain ⟨a2, f2, _, y3, _⟩ := D2.out.ln.b.beam hB2.out
  obtain rfl : ab = a1 := Option.some.inj f1
  obtain rfl : ab = a2 := Option.some.inj f2
  rw [HRL.out] at y1
  rw [HQL.out] at y3
  clear f1 f2
  go_wp2_with fail
  go_region
  go_wp2_with fail
  refine (refPlaceOf_any HR.out ⟨⟨some aj, cj⟩, ⟨some ab, cb⟩, ⟨As, cs⟩, each⟩ hL j hjn0 hjn _ D2.out.drew.lnW).mono ?_
  rintro e w3 ⟨rfl, hb3⟩
  rw [Int.toNat_natCast]
  have D3 := Lib.hid (D2.out.drew.call hb3)
  clear c0 c1 c2 c3 v0 v1 v2 y1 y3 hb3 D2
  obtain ⟨c0, c1, c2, c3⟩ := D3.out.box.four
  go_wp2_with fail
  refine wp_abs ?_
  intro w4 h4
  have D4 : Hid (DF w w4 L ⟨⟨some aj, cj⟩, ⟨some ab, cb⟩, ⟨As, cs⟩, each⟩ v) := Lib.hid (by rw [← h4]; exact D3.out.alloc _)
  have Z4 : Hid (RowF w4 w3.heap.size L.js.length (fun _ => 0)) := Lib.hid (by rw [← h4]; exact World.rowIs_made w3 (.int .i64 0) L.js.length 3)
  have hg : w.heap.size + 3 ≤ w3.heap.size := D3.out.size
  clear h4 c0 c1 c2 c3 D3 hmk
  generalize w3.heap.size = g at *
  obtain ⟨c0, c1, c2, c3⟩ := D4.out.box.four
  obtain ⟨v0, v1, v2⟩ := D4.out.veh.three
  have z1 := Z4.out.at_ hj
  have z2 := Z4.out.frozen j
  go_region
  go_wp2_with fail
  refine wp_abs ?_
  intro w5 h5
  obtain ⟨f3, hf3⟩ : ∃ f : Nat → Int, f = fun i => if i = j then v.len * R * Q else 0 := ⟨_, rfl⟩
  have Z5 : Hid (RowF w5 g L.js.length f3) := Lib.hid (by rw [← h5, hf3]; exact (Z4.out.one j _).drew)
  have D5 : Hid (DF w w5 L ⟨⟨some aj, cj⟩, ⟨some ab, cb⟩, ⟨As, cs⟩, each⟩ v) := Lib.hid (by rw [← h5]; exact (D4.out.set (p := ⟨g, j, none⟩) hg _).drew)
  clear h5 c0 c1 c2 c3 v0 v1 v2 z1 z2 D4 Z4
  have F3 : Hid (∀ i, -0 ≤ f3 i ∧ f3 i ≤ 27000000000000) := Lib.hid (fun i => by have := SZ.out.2.1; rw [hf3]; dsimp only; split <;> omega)
  have HF3 := Lib.hid hf3
  clear hf3
  obtain ⟨v0, v1, v2⟩ := D5.out.veh.three
  have z1 := Z5.out.at_ hrj
  have z2 := Z5.out.frozen r
  have t1 := IntWalk.i64_in (v.len - al) (by have := HX.out.1; have := HX.out.2.1; have := HX.out.2.2.1; have := Hal.out; omega)
  have t2 := IntWalk.i64_in (R - d1) (by have := HX.out.2.2.2.1; have := HX.out.2.2.2.2.2.1; omega)
  have t3 := IntWalk.i64_in ((v.len - al) * (R - d1)) (by have := SZ.out.2.2.1; omega)
  have t4 := IntWalk.i64_in ((v.len - al) * (R - d1) * Q) (by have := SZ.out.2.2.2.1; omega)
  have t5 := IntWalk.i64_in (f3 r - (v.len - al) * (R - d1) * Q) (by have := SZ.out.2.2.2.1; have := F3.out r; omega)
  go_region
  clear z1 z2 t2 t3 t4 t5
  go_wp2_with fail
  refine wp_abs ?_
  intro w6 h6
  have Z6 : Hid (RowF w6 g L.js.length (less f3 r ((v.len - al) * (R - d1) * Q))) := Lib.hid (by rw [← h6]; exact (Z5.out.less r _).drew)
  have F4 := Lib.hid (less_in F3.out SZ.out.2.2.2.1 r)
  have D6 : Hid (DF w w6 L ⟨⟨some aj, cj⟩, ⟨some ab, cb⟩, ⟨As, cs⟩, each⟩ v) := Lib.hid (by rw [← h6]; exact (D5.out.set (p := ⟨g, r, none⟩) hg _).drew)
  clear h6 Z5 D5 F3 v0 v1 v2
  obtain ⟨f4, hf4⟩ : ∃ f, less f3 r ((v.len - al) * (R - d1) * Q) = f := ⟨_, rfl⟩
  rw [hf4] at Z6 F4
  have HF4 := Lib.hid hf4
  clear hf4
  obtain ⟨v0, v1, v2⟩ := D6.out.veh.three
  have z1 := Z6.out.at_ hrs
  have z2 := Z6.out.frozen (r + 1)
  have t2 := IntWalk.i64_in ((r : Int) + 1) (by omega)
  have t3 := IntWalk.i64_in ((v.len - al) * d1) (by have := SZ.out.2.2.2.2.1; omega)
  have t4 := IntWalk.i64_in ((v.len - al) * d1 * Q) (by have := SZ.out.2.2.2.2.2.1; omega)
  have t5 := IntWalk.i64_in (f4 (r + 1) - (v.len - al) * d1 * Q) (by have := SZ.out.2.2.2.2.2.1; have := F4.out (r + 1); omega)
  go_region
  clear z1 z2 t1 t3 t4 t5 v0 v1 v2
  generalize h7 : w6.setCell ⟨g, r + 1, none⟩ (.int .i64 (f4 (r + 1) - (v.len - al) * d1 * Q)) = w7
  have Z7 : Hid (RowF w7 g L.js.length (less f4 (r + 1) ((v.len - al) * d1 * Q))) := Lib.hid (by rw [← h7]; exact Z6.out.less (r + 1) _)
  have F5 := Lib.hid (less_in F4.out SZ.out.2.2.2.2.2.1 (r + 1))
  have D7 : Hid (DF w w7 L ⟨⟨some aj, cj⟩, ⟨some ab, cb⟩, ⟨As, cs⟩, each⟩ v) := Lib.hid (by rw [← h7]; exact D6.out.set (p := ⟨g, r + 1, none⟩) hg _)
  clear h7 Z6 D6 F4
  obtain ⟨f5, hf5⟩ : ∃ f, less f4 (r + 1) ((v.len - al) * d1 * Q) = f := ⟨_, rfl⟩
  rw [hf5] at Z7 F5
  have HF5 := Lib.hid hf5
  clear hf5
  have z1 := Z7.out.at_ hqj
  have z2 := Z7.out.frozen q
  have z3 := Z7.out.at_ hqs
  have z4 := Z7.out.frozen (q + 1)
  have t3 := IntWalk.i64_in ((q : Int) + 1) (by omega)
  have t4 := IntWalk.i64_in (Q - d2) (by have := HX.out.2.2.2.2.1; have := HX.out.2.2.2.2.2.2; omega)
  have t5 := IntWalk.i64_in (al * (Q - d2)) (by have := SZ.out.2.2.2.2.2.2.1; omega)
  have t6 := IntWalk.i64_in (al * (Q - d2) * R) (by have := SZ.out.2.2.2.2.2.2.2.1; omega)
  have t7 := IntWalk.i64_in (f5 q - al * (Q - d2) * R) (by have := SZ.out.2.2.2.2.2.2.2.1; have := F5.out q; omega)
  have t8 := IntWalk.i64_in (al * d2) (by have := SZ.out.2.2.2.2.2.2.2.2.1; omega)
  have t9 := IntWalk.i64_in (al * d2 * R) (by have := SZ.out.2.2.2.2.2.2.2.2.2; omega)
  have t10 := IntWalk.i64_in (f5 (q + 1) - al * d2 * R) (by have := SZ.out.2.2.2.2.2.2.2.2.2; have := F5.out (q + 1); omega)
  have t11 : IntKind.i64.wrap 0 = 0 := by decide
  go_wp2_with fail
  generalize h8 : (w7.setCell ⟨g, q, none⟩ (.int .i64 (f5 q - al * (Q - d2) * R))).setCell ⟨g, q + 1, none⟩ (.int .i64 (f5 (q + 1) - al * d2 * R)) = w8
  have Z8 : Hid (RowF w8 g L.js.length (less (less f5 q (al * (Q - d2) * R)) (q + 1) (al * d2 * R))) := Lib.hid (by
    have e : less f5 q (al * (Q - d2) * R) (q + 1) = f5 (q + 1) := by simp [less]
    rw [← h8, ← e]
    exact (Z7.out.less q _).less (q + 1) _)
  have F6 := Lib.hid (less_in (less_in F5.out SZ.out.2.2.2.2.2.2.2.1 q) SZ.out.2.2.2.2.2.2.2.2.2 (q + 1))
  have D8 : Hid (DF w w8 L ⟨⟨some aj, cj⟩, ⟨some ab, cb⟩, ⟨As, cs⟩, each⟩ v) := Lib.hid (by rw [← h8]; exact (D7.out.set (p := ⟨g, q, none⟩) hg _).set (p := ⟨g, q + 1, none⟩) hg _)
  clear h8 Z7 D7 F5 z1 z2 z3 z4 t3 t4 t5 t6 t7 t8 t9 t10 t11
  obtain ⟨f6, hf6⟩ : ∃ f, less (less f5 q (al * (Q - d2) * R)) (q + 1) (al * d2 * R) = f := ⟨_, rfl⟩
  rw [hf6] at Z8 F6
  have HF6 := Lib.hid hf6
  clear hf6
  have SS : Hid (∀ n, upTo (sizes f6) 0 n ≤ 135000000000000) := Lib.hid (fun n => by
    have hn := Nat.zero_le n
    rw [← HF6.out]
    refine sizes_less' (a := 108000000000000) (c := 27000000000000) hn (sizes_less' (a := 81000000000000) (c := 27000000000000) hn ?_ SZ.out.2.2.2.2.2.2.2.1) SZ.out.2.2.2.2.2.2.2.2.2
    rw [← HF5.out]
    refine sizes_less' (a := 54000000000000) (c := 27000000000000) hn ?_ SZ.out.2.2.2.2.2.1
    rw [← HF4.out]
    refine sizes_less' (a := 27000000000000) (c := 27000000000000) hn ?_ SZ.out.2.2.2.1
    rw [HF3.out]
    exact sizes_one SZ.out.2.1 hn)
  go_loopw [17, 18, 19] (fun lo hi i wr => ∃ k : Nat, k ≤ L.js.length ∧ i = .int .i64 k ∧ lo = .int .i64 (upTo (addLo L f6) 0 k) ∧ hi = .int .i64 (upTo (addHi L f6) 0 k) ∧ Below w8.heap.size w8 wr) (fun _ _ i _ => L.js.length - (intOf i).toNat)
  case atStart => exact ⟨0, Nat.zero_le _, rfl, by rw [upTo_self], by rw [upTo_self], (Below.refl _ _).drew⟩
  case round =>
    obtain ⟨k, hk, rfl, rfl, rfl, hb⟩ := hrel
    have HB := Lib.hid hb
    clear hb
    have DW := Lib.hid (D8.out.call HB.out)
    have ZW := Lib.hid (Z8.out.below HB.out Z8.out.lt)
    obtain ⟨c0, c1, c2, c3⟩ := DW.out.box.four
    by_cases hlt : k < L.js.length
    · have hkl' : (k : Int) < (L.js.length : Int) := by omega
      obtain ⟨z, e, _, x0, _, x2, x3⟩ := DW.out.ln.j.joint (List.getElem?_eq_getElem hlt)
      obtain rfl : aj = z := Option.some.inj e
      have y0 := ZW.out.at_ hlt
      have jn := joint_in (HR.out.j _ (List.getElem_mem hlt))
      have gs := F6.out k
      have lo1 := upTo_le (addLo_in HR.out f6) (Nat.zero_le k)
      have hi1 := upTo_le (addHi_in HR.out f6) (Nat.zero_le k)
      have s1 := SS.out k
      have lo2 := addLo_in HR.out f6 k
      have hi2 := addHi_in HR.out f6 k
      have sk : sizes f6 k ≤ 135000000000000 := by unfold sizes; omega
      have mm := addLo_min (f := f6) (List.getElem?_eq_getElem hlt) (by omega)
      have uL := upTo_succ (addLo L f6) (Nat.zero_le k)
      have uH := upTo_succ (addHi L f6) (Nat.zero_le k)
      have t3 := IntWalk.i64_in (L.js[k].x + L.js[k].lo) (by omega)
      have t4 := IntWalk.i64_in (L.js[k].x + L.js[k].hi) (by omega)
      obtain ⟨a, ha⟩ : ∃ a, f6 k * (L.js[k].x + L.js[k].lo) = a := ⟨_, rfl⟩
      obtain ⟨b, hbb⟩ : ∃ b, f6 k * (L.js[k].x + L.js[k].hi) = b := ⟨_, rfl⟩
      rw [ha, hbb] at mm
      have t5 : IntKind.i64.wrap (f6 k * (L.js[k].x + L.js[k].lo)) = a := by rw [ha]; exact IntWalk.i64_in _ (by omega)
      have t6 : IntKind.i64.wrap (f6 k * (L.js[k].x + L.js[k].hi)) = b := by rw [hbb]; exact IntWalk.i64_in _ (by omega)
      have U1 : Hid (upTo (addLo L f6) 0 k + min a b = upTo (addLo L f6) 0 (k + 1)) := Lib.hid (by rw [uL, mm.1])
      have U2 : Hid (upTo (addHi L f6) 0 k + max a b = upTo (addHi L f6) 0 (k + 1)) := Lib.hid (by rw [uH, mm.2])
      have b1 : -2713500000000000000 ≤ a ∧ a ≤ 2713500000000000000 := by omega
      have b2 : -2713500000000000000 ≤ b ∧ b ≤ 2713500000000000000 := by omega
      have b3 : -2713500000000000000 ≤ upTo (addLo L f6) 0 k ∧ upTo (addLo L f6) 0 k ≤ 2713500000000000000 := by omega
      have b4 : -2713500000000000000 ≤ upTo (addHi L f6) 0 k ∧ upTo (addHi L f6) 0 k ≤ 2713500000000000000 := by omega
      have tk := IntWalk.i64_in ((k : Int) + 1) (by omega)
      clear uL uH lo1 hi1 lo2 hi2 s1 sk gs jn mm e ha hbb
      obtain ⟨b11, b12⟩ := b1
      obtain ⟨b21, b22⟩ := b2
      obtain ⟨b31, b32⟩ := b3
      obtain ⟨b41, b42⟩ := b4
      generalize upTo (addLo L f6) 0 k = lo0 at *
      generalize upTo (addHi L f6) 0 k = hi0 at *
      by_cases g1 : a < b
      · have g2 : a ≤ b := by omega
        have g3 : ¬ b < a := by omega
        have g4 : ¬ b ≤ a := by omega
        have U3 := U1.out
        have U4 := U2.out
        rw [show min a b = a by omega] at U3
        rw [show max a b = b by omega] at U4
        have t7 : IntKind.i64.wrap (lo0 + a) = upTo (addLo L f6) 0 (k + 1) := by rw [← U3]; exact IntWalk.i64_in _ (by omega)
        have t8 : IntKind.i64.wrap (hi0 + b) = upTo (addHi L f6) 0 (k + 1) := by rw [← U4]; exact IntWalk.i64_in _ (by omega)
        clear U1 U2 U3 U4
        go_wp2_with fail
        go_quiet (fail)
        go_wp2_with fail
        go_quiet (fail)
        go_wp2_with fail
        go_quiet (fail)
        go_wp2_with fail
        go_roundw
        case rel => exact ⟨k + 1, by omega, by go_num, rfl, rfl, below_drewN HB.out _⟩
        case measure => simp [intOf]; omega
      · have g2 : b ≤ a := by omega
        have U3 := U1.out
        have U4 := U2.out
        rw [show min a b = b by omega] at U3
        rw [show max a b = a by omega] at U4
        have t7 : IntKind.i64.wrap (lo0 + b) = upTo (addLo L f6) 0 (k + 1) := by rw [← U3]; exact IntWalk.i64_in _ (by omega)
        have t8 : IntKind.i64.wrap (hi0 + a) = upTo (addHi L f6) 0 (k + 1) := by rw [← U4]; exact IntWalk.i64_in _ (by omega)
        clear U1 U2 U3 U4
        by_cases g3 : b = a
        · subst g3
          go_wp2_with fail
          go_quiet (fail)
          go_wp2_with fail
          go_quiet (fail)
          go_wp2_with fail
          go_quiet (fail)
          go_wp2_with fail
          go_roundw
          case rel => exact ⟨k + 1, by omega, by go_num, rfl, rfl, below_drewN HB.out _⟩
          case measure => simp [intOf]; omega
        · have g4 : b < a := by omega
          have g5 : ¬ a ≤ b := by omega
          clear g3
          go_wp2_with fail
          go_quiet (fail)
          go_wp2_with fail
          go_quiet (fail)
          go_wp2_with fail
          go_quiet (fail)
          go_wp2_with fail
          go_roundw
          case rel => exact ⟨k + 1, by omega, by go_num, rfl, rfl, below_drewN HB.out _⟩
          case measure => simp [intOf]; omega
    · obtain rfl : k = L.js.length := by omega
      obtain ⟨v0, v1, v2⟩ := DW.out.veh.three
      have lo1 := upTo_le (addLo_in HR.out f6) (Nat.zero_le L.js.length)
      have hi1 := upTo_le (addHi_in HR.out f6) (Nat.zero_le L.js.length)
      have s1 := SS.out L.js.length
      have w1 : 1 ≤ v.len * R * Q := Int.mul_pos (Int.mul_pos (by have := HX.out.1; omega) (by have := HX.out.2.2.2.1; omega)) (by have := HX.out.2.2.2.2.1; omega)
      have w2 := SZ.out.2.1
      have f1 : -9223372036854775807 ≤ upTo (addLo L f6) 0 L.js.length ∧ upTo (addLo L f6) 0 L.js.length ≤ 9223372036854775807 := by omega
      have f2 : -9223372036854775807 ≤ upTo (addHi L f6) 0 L.js.length ∧ upTo (addHi L f6) 0 L.js.length ≤ 9223372036854775807 := by omega
      have w3 : v.len * R * Q ≤ 9223372036854775807 := by omega
      clear lo1 hi1 s1 w2
      obtain ⟨g0, g1, g2, g3⟩ := DW.out.res.two
      have hf := Lib.hid (show f6 = partsF v.len R Q d1 d2 al j r q by rw [← HF6.out, ← HF5.out, ← HF4.out, HF3.out]; rfl)
      go_wp2_with (first | (go_at_call 114; refine (Floor_any _ _ f1.1 f1.2 w1 w3 _).mono ?_; rintro e w' ⟨rfl, rfl⟩) | (go_at_call 115; refine (Ceil_any _ _ f2.1 f2.2 w1 w3 _).mono ?_; rintro e w' ⟨rfl, rfl⟩))
      rw [← hf.out]
      refine bodyPost_ret (v := .agg #[.int .i64 (upTo (addLo L f6) 0 L.js.length / (v.len * R * Q)), .int .i64 (-(-upTo (addHi L f6) 0 L.js.length / (v.len * R * Q)))]) (by simp [results, Try.results59, go_sem, g0, g1]) rfl ⟨rfl, ?_⟩
      exact (DW.out.bl.setCell (by simp; omega) _).setCell (by simp; omega) _
end Go.Proofs.Ytmnlgeglmkdecaa
