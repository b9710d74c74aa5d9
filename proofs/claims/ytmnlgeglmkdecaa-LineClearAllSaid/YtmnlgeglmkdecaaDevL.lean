/-
  The walk of LineDeviations.
-/
import Derived.Test.YtmnlgeglmkdecaaBenR
import Derived.Test.YtmnlgeglmkdecaaRefDv
import Derived.Deep.DeepCutAuto
import Derived.Deep.CutRange
namespace Go.Proofs.Ytmnlgeglmkdecaa
open Go.RowKit

theorem ben_mem {L : Ll} (hr : Right L) {v : Lv} (hv : vErr v = 0) {p : Int} (p0 : 0 ≤ p) (hT : p + v.len ≤ placeL L.bs L.bs.length) (x : Int) : decide (x ∈ benL L v p L.js.length) = benB L v p x := by
  obtain ⟨⟨l1, l2⟩, _⟩ := vErr_in hv
  obtain ⟨a, b, c⟩ := beamOf_at hr p0
  obtain ⟨f1, f2, f3, f4⟩ := frontOf_at hr (p := p) (n := v.len) p0 (by omega) hT
  have hjb := hr.jb
  rw [Bool.eq_iff_iff, decide_eq_true_eq]
  unfold benL benB benP
  simp only [List.mem_map, List.mem_filter, List.mem_range, inB_iff, Bool.and_eq_true, decide_eq_true_eq]
  constructor
  · rintro ⟨i, ⟨hi, h1, h2⟩, rfl⟩
    have e1 : beamOf L p < i := by
      apply Classical.byContradiction
      intro h
      by_cases e : i = beamOf L p
      · subst e; omega
      · have := placeL_lt hr (show i < beamOf L p by omega) (by omega); omega
    have e2 : i < frontOf L (p + v.len) := by
      apply Classical.byContradiction
      intro h
      by_cases e : i = frontOf L (p + v.len)
      · rw [e] at h2; omega
      · have := placeL_lt hr (show frontOf L (p + v.len) < i by omega) (by omega); omega
    exact ⟨by show (beamOf L p : Int) < (i : Int); omega, by show (i : Int) < _; omega⟩
  · rintro ⟨h1, h2⟩
    obtain ⟨k, rfl⟩ := Int.eq_ofNat_of_zero_le (show 0 ≤ x by omega)
    have e1 := c k (by omega) (by omega)
    have e2 := f3 k (by omega) (by omega)
    exact ⟨k, ⟨by omega, by omega, by omega⟩, rfl⟩

theorem refDeviationAt_at {L : Ll} (hr : Right L) {v : Lv} (hv : vErr v = 0) {p x : Int} (hp : 0 ≤ p) (hT : p + v.len ≤ placeL L.bs L.bs.length) (hb : benB L v p x = true) {lo hi : Int} (hlo : devLo L v p x.toNat = lo) (hhi : devHi L v p x.toNat = hi) (H : Hds) (hL : L.ok) (w : World) (hA : LnAt w w.heap.size L H) :
    Calls Try.prog 59 #[(.agg #[.string L.name, .slice H.j.A L.js.length H.j.c, .slice H.b.A L.bs.length H.b.c, .slice H.s.A L.ss.length H.s.c]), (.agg #[.int .i64 v.len, .int .i64 v.clear, .int .i64 v.step]), .int .i64 p, .int .i64 x] w fun e w' => e = .returned (.agg #[.int .i64 lo, .int .i64 hi]) ∧ Below w.heap.size w w' := by
  obtain ⟨⟨l1, l2⟩, _⟩ := vErr_in hv
  obtain ⟨a, b, c⟩ := beamOf_at hr hp
  obtain ⟨f1, f2, f3, f4⟩ := frontOf_at hr (p := p) (n := v.len) hp (by omega) hT
  have hjb := hr.jb
  unfold benB at hb
  simp only [Bool.and_eq_true, decide_eq_true_eq] at hb
  obtain ⟨k, rfl⟩ := Int.eq_ofNat_of_zero_le (show 0 ≤ x by omega)
  rw [Int.toNat_natCast] at hlo hhi
  have e1 := c k (by omega) (by omega)
  have e2 := f3 k (by omega) (by omega)
  have h := refDev_sum hr H hL v hv p k _ _ hp hT rfl rfl (by omega) (by omega) (by omega) _ _ _ _ _ rfl rfl rfl rfl rfl w hA
  obtain ⟨s1, s2⟩ := dev_all hr hp (show 0 ≤ v.len by omega) hT (show k < L.js.length by omega) (by omega) (show placeL L.bs k ≤ p + v.len by omega)
  refine h.mono ?_
  rintro e w' ⟨rfl, hbl⟩
  refine ⟨?_, hbl⟩
  rw [← hlo, ← hhi]
  unfold devLo devHi devW
  unfold devF at s1 s2 ⊢
  rw [s1, s2]

/-- A law's line, vehicle and pose in boxes; the line in memory below the call. -/
structure VS (w W : World) (L : Ll) (H : Hds) (v : Lv) (p j : Int) : Prop where
  box : Bk W w.heap.size 26 #[.string L.name, .slice H.j.A L.js.length H.j.c, .slice H.b.A L.bs.length H.b.c, .slice H.s.A L.ss.length H.s.c]
  veh : Bk W (w.heap.size + 1) 77 #[.int .i64 v.len, .int .i64 v.clear, .int .i64 v.step]
  arr : Bk W (w.heap.size + 2) 78 #[.int .i64 p, .int .i64 j]
  bl : Below w.heap.size w W
  ln : LnAt W w.heap.size L H
section
variable {w W W' : World} {L : Ll} {H : Hds} {v : Lv} {p j : Int}
theorem VS.from (hb : Below W.heap.size W W') (h : VS w W L H v p j) : VS w W' L H v p j := ⟨h.box.call hb, h.veh.call hb, h.arr.call hb, Below.step h.bl hb, h.ln.below (hb.mono h.bl.size)⟩
theorem VS.lnW (h : VS w W L H v p j) : LnAt W W.heap.size L H := h.ln.more h.bl.size
theorem VS.alloc (h : VS w W L H v p j) (o : Obj) : VS w (W.alloc o) L H v p j := h.from ((Below.refl _ W).alloc (Nat.le_refl _) o)
theorem VS.drew (h : VS w W L H v p j) : VS w W.drew L H v p j := ⟨h.box, h.veh, h.arr, h.bl.drew, h.ln.keep (fun _ _ => rfl)⟩
theorem VS.set (h : VS w W L H v p j) {q : Addr} (hq : w.heap.size + 3 ≤ q.block) (u : Value) : VS w (W.setCell q u) L H v p j :=
  ⟨h.box.far (by omega) _, h.veh.far (by omega) _, h.arr.far (by omega) _, h.bl.setCell (by omega) _, h.ln.below ((Below.refl _ W).setCell (by omega) _)⟩
theorem VS.size (h : VS w W L H v p j) : w.heap.size + 3 ≤ W.heap.size := h.arr.lt
theorem VS.start (hA : LnAt w w.heap.size L H) : VS w (((w.alloc (.cells #[.string L.name, .slice H.j.A L.js.length H.j.c, .slice H.b.A L.bs.length H.b.c, .slice H.s.A L.ss.length H.s.c] 26)).alloc (.cells #[.int .i64 v.len, .int .i64 v.clear, .int .i64 v.step] 77)).alloc (.cells #[.int .i64 p, .int .i64 j] 78)) L H v p j :=
  have b0 := (((Below.refl w.heap.size w).alloc (Nat.le_refl _) (.cells #[.string L.name, .slice H.j.A L.js.length H.j.c, .slice H.b.A L.bs.length H.b.c, .slice H.s.A L.ss.length H.s.c] 26)).alloc (by simp) (.cells #[.int .i64 v.len, .int .i64 v.clear, .int .i64 v.step] 77)).alloc (by simp; omega) (.cells #[.int .i64 p, .int .i64 j] 78)
  ⟨((Bk.new w _ _).alloc _).alloc _, (Bk.new1 w _ _ _).alloc _, Bk.new2 w _ _ _ _, b0, hA.below b0⟩
theorem VS.all (h : VS w W L H v p j) : VS w W L H v p j ∧ W.cell? ⟨w.heap.size, 0, none⟩ = some (.string L.name) ∧ W.cell? ⟨w.heap.size, 1, none⟩ = some (.slice H.j.A L.js.length H.j.c) ∧ W.cell? ⟨w.heap.size, 2, none⟩ = some (.slice H.b.A L.bs.length H.b.c) ∧ W.cell? ⟨w.heap.size, 3, none⟩ = some (.slice H.s.A L.ss.length H.s.c) ∧ W.cell? ⟨w.heap.size + 1, 0, none⟩ = some (.int .i64 v.len) ∧ W.cell? ⟨w.heap.size + 1, 1, none⟩ = some (.int .i64 v.clear) ∧ W.cell? ⟨w.heap.size + 1, 2, none⟩ = some (.int .i64 v.step) ∧ W.cell? ⟨w.heap.size + 2, 0, none⟩ = some (.int .i64 p) ∧ W.cell? ⟨w.heap.size + 2, 1, none⟩ = some (.int .i64 j) := ⟨h, h.box.cell 0, h.box.cell 1, h.box.cell 2, h.box.cell 3, h.veh.cell 0, h.veh.cell 1, h.veh.cell 2, h.arr.cell 0, h.arr.cell 1⟩
/-- And a range in a box of its own. -/
structure VD (w W : World) (L : Ll) (H : Hds) (v : Lv) (p j : Int) (g : Nat) (a b : Int) : Prop where
  s : VS w W L H v p j
  k0 : W.cell? ⟨g, 0, none⟩ = some (.int .i64 a)
  k1 : W.cell? ⟨g, 1, none⟩ = some (.int .i64 b)
theorem VD.from {g : Nat} {a b : Int} (hb : Below W.heap.size W W') (h : VD w W L H v p j g a b) : VD w W' L H v p j g a b := ⟨h.s.from hb, (hb.cell (cell_lt h.k0)).trans h.k0, (hb.cell (cell_lt h.k1)).trans h.k1⟩
theorem VD.drew {g : Nat} {a b : Int} (h : VD w W L H v p j g a b) : VD w W.drew L H v p j g a b := ⟨h.s.drew, h.k0, h.k1⟩
theorem VD.all {g : Nat} {a b : Int} (h : VD w W L H v p j g a b) : VD w W L H v p j g a b ∧ W.cell? ⟨w.heap.size, 0, none⟩ = some (.string L.name) ∧ W.cell? ⟨w.heap.size, 1, none⟩ = some (.slice H.j.A L.js.length H.j.c) ∧ W.cell? ⟨w.heap.size, 2, none⟩ = some (.slice H.b.A L.bs.length H.b.c) ∧ W.cell? ⟨w.heap.size, 3, none⟩ = some (.slice H.s.A L.ss.length H.s.c) ∧ W.cell? ⟨w.heap.size + 1, 0, none⟩ = some (.int .i64 v.len) ∧ W.cell? ⟨w.heap.size + 1, 1, none⟩ = some (.int .i64 v.clear) ∧ W.cell? ⟨w.heap.size + 1, 2, none⟩ = some (.int .i64 v.step) ∧ W.cell? ⟨w.heap.size + 2, 0, none⟩ = some (.int .i64 p) ∧ W.cell? ⟨w.heap.size + 2, 1, none⟩ = some (.int .i64 j) ∧ W.cell? ⟨g, 0, none⟩ = some (.int .i64 a) ∧ W.cell? ⟨g, 1, none⟩ = some (.int .i64 b) :=
  ⟨h, h.s.box.cell 0, h.s.box.cell 1, h.s.box.cell 2, h.s.box.cell 3, h.s.veh.cell 0, h.s.veh.cell 1, h.s.veh.cell 2, h.s.arr.cell 0, h.s.arr.cell 1, h.k0, h.k1⟩
end
theorem LnAt.allocW {w : World} {L : Ll} {H : Hds} (h : LnAt w w.heap.size L H) (o : Obj) : LnAt (w.alloc o) (w.alloc o).heap.size L H :=
  have b := (Below.refl w.heap.size w).alloc (Nat.le_refl _) o
  (h.below b).more b.size

/-- The kinds of what DeviationAt comes to. -/
inductive Kind (L : Ll) (v : Lv) (p j : Int) : Int → Int → Int → Prop
  | line (m1 m2 er : Int) (h : ckLine L = ((m1, m2), er)) (he : er ≠ 0) : Kind L v p j 0 0 er
  | veh (hr : Right L) (hck : ckLine L = ((0, 0), 0)) (er : Int) (h : vErr v = er) (he : er ≠ 0) : Kind L v p j 0 0 er
  | pose (hr : Right L) (hck : ckLine L = ((0, 0), 0)) (hv : vErr v = 0) (h : (if inB p 0 (placeL L.bs L.bs.length - v.len) && (p.tmod v.step == 0) then (0 : Int) else 6) = 6) : Kind L v p j 0 0 6
  | not (hr : Right L) (hck : ckLine L = ((0, 0), 0)) (hv : vErr v = 0) (h : (if inB p 0 (placeL L.bs L.bs.length - v.len) && (p.tmod v.step == 0) then (0 : Int) else 6) = 0) (p0 : 0 ≤ p) (pT : p + v.len ≤ placeL L.bs L.bs.length) (hb : benB L v p j = false) : Kind L v p j 0 0 6
  | yes (hr : Right L) (hck : ckLine L = ((0, 0), 0)) (hv : vErr v = 0) (h : (if inB p 0 (placeL L.bs L.bs.length - v.len) && (p.tmod v.step == 0) then (0 : Int) else 6) = 0) (p0 : 0 ≤ p) (pT : p + v.len ≤ placeL L.bs L.bs.length) (hb : benB L v p j = true) (a b : Int) (ha : devLo L v p j.toNat = a) (hb2 : devHi L v p j.toNat = b) : Kind L v p j a b 0
theorem kind_of (L : Ll) (hL : L.ok) (v : Lv) (p j : Int) : ∃ a b f, Kind L v p j a b f ∧ ∀ (H : Hds) (w : World), LnAt w w.heap.size L H →
    Calls Try.prog 54 #[(.agg #[.string L.name, .slice H.j.A L.js.length H.j.c, .slice H.b.A L.bs.length H.b.c, .slice H.s.A L.ss.length H.s.c]), (.agg #[.int .i64 v.len, .int .i64 v.clear, .int .i64 v.step]), .agg #[.int .i64 p, .int .i64 j]] w fun e w' => e = .returned (.tuple #[.agg #[.int .i64 a, .int .i64 b], .int .i64 f]) ∧ Below w.heap.size w w' := by
  by_cases he : poseErr L v p = 0
  · obtain ⟨hr, hck, hv, hp, hm⟩ := poseErr_good he
    obtain ⟨p0, pT⟩ := inB_iff.1 hp
    have hz : (if inB p 0 (placeL L.bs L.bs.length - v.len) && (p.tmod v.step == 0) then (0 : Int) else 6) = 0 := by rw [hp, hm]; rfl
    cases hb : benB L v p j with
    | false =>
      refine ⟨0, 0, 6, .not hr hck hv hz p0 (by omega) hb, fun H w hA => ?_⟩
      have h := DeviationAt_good hr hck H hL v hv p j hp hm w hA
      unfold devAns at h
      rw [if_neg (by rw [hb]; simp)] at h
      exact h
    | true =>
      refine ⟨_, _, 0, .yes hr hck hv hz p0 (by omega) hb _ _ rfl rfl, fun H w hA => ?_⟩
      have h := DeviationAt_good hr hck H hL v hv p j hp hm w hA
      unfold devAns at h
      rw [if_pos hb] at h
      exact h
  · refine ⟨0, 0, poseErr L v p, ?_, fun H w hA => DeviationAt_err rfl he j H hL w hA⟩
    rcases poseErr_cases rfl he with h | ⟨h, h6, hbad⟩
    · rw [← h] at he ⊢
      rcases rideErr_cases rfl he with ⟨m1, m2, hck⟩ | ⟨hr, hck, hv⟩
      · exact .line m1 m2 _ hck he
      · exact .veh hr hck _ hv he
    · obtain ⟨hr, hck, hv⟩ := rideErr_good h
      rw [h6]
      refine .pose hr hck hv ?_
      rcases hbad with hb | ⟨hb, hm⟩
      · rw [hb]; rfl
      · rw [hb, if_neg]
        simpa using hm

set_option maxHeartbeats 8000000 in
set_option maxRecDepth 100000 in
theorem LineDeviations_any (L : Ll) (H : Hds) (hH : HdsOk H) (n1 : L.name.size ≤ maxLen) (n2 : L.js.length ≤ maxLen) (n3 : L.bs.length ≤ maxLen) (n4 : L.ss.length ≤ maxLen) (n5 : ∀ s ∈ L.ss, s.across.length ≤ maxLen ∧ s.name.size ≤ maxLen)
    (oj : ∀ j ∈ L.js, j.ok) (ob : ∀ b ∈ L.bs, b.ok) (os : ∀ s ∈ L.ss, s.ok) (v : Lv) (p j : Int) (w : World) (hA : LnAt w w.heap.size L H) :
    Calls Try.prog 9 #[(.agg #[.string L.name, .slice H.j.A L.js.length H.j.c, .slice H.b.A L.bs.length H.b.c, .slice H.s.A L.ss.length H.s.c]), (.agg #[.int .i64 v.len, .int .i64 v.clear, .int .i64 v.step]), .agg #[.int .i64 p, .int .i64 j]] w fun e w' => e = .returned (.bool true) ∧ Below w.heap.size w w' := by
  have S0 := Lib.hid (VS.start (v := v) (p := p) (j := j) hA)
  have HF := Lib.hid (fun w hA => Few_any L H n1 n2 n3 n4 n5 w hA)
  have HO : Hid (fewL L = true → L.ok) := Lib.hid (fun h => few_ok h oj ob os)
  have HH := Lib.hid hH
  clear hA n1 n2 n3 n4 n5 oj ob os hH
  cases hf : fewL L with
  | false =>
    rw [hf] at HF
    clear HO hf
    go_enter Try.func9, Try.ntmps9
    go_wp2_with fail
    refine (awake_any _).mono ?_
    rintro e w1 ⟨rfl, hb1⟩
    have S1 := Lib.hid (VS.from hb1 S0.out)
    clear hb1 S0
    obtain ⟨c0, c1, c2, c3⟩ := S1.out.box.four
    go_wp2_with fail
    refine (HF.out _ S1.out.lnW).mono ?_
    rintro e w2 ⟨rfl, hb2⟩
    have S2 := Lib.hid (VS.from hb2 S1.out)
    clear hb2 S1 c0 c1 c2 c3
    go_wp2_with fail
    go_ret
    exact ⟨rfl, S2.out.bl⟩
  | true =>
    rw [hf] at HF
    have HL := Lib.hid (HO.out hf)
    clear HO hf
    obtain ⟨a, b, f, hkind, hdev⟩ := kind_of L HL.out v p j
    have KD := Lib.hid hkind
    have HDV := Lib.hid hdev
    clear hkind hdev
    obtain ⟨d, hd⟩ : ∃ d, vErr v = d := ⟨_, rfl⟩
    have HVE := Lib.hid hd
    clear hd
    go_enter Try.func9, Try.ntmps9
    go_wp2_with fail
    refine (awake_any _).mono ?_
    rintro e w1 ⟨rfl, hb1⟩
    have S1 := Lib.hid (VS.from hb1 S0.out)
    clear hb1 S0
    obtain ⟨c0, c1, c2, c3⟩ := S1.out.box.four
    go_wp2_with fail
    refine (HF.out _ S1.out.lnW).mono ?_
    rintro e w2 ⟨rfl, hb2⟩
    have S2 := Lib.hid (VS.from hb2 S1.out)
    clear hb2 S1 c0 c1 c2 c3
    obtain ⟨v0, v1, v2⟩ := S2.out.veh.three
    go_wp2_with fail
    refine (CheckVehicle_any v _).mono ?_
    rintro e w3 ⟨rfl, hb3⟩
    rw [HVE.out]
    have S3 := Lib.hid (VS.from hb3 S2.out)
    clear hb3 S2 v0 v1 v2
    have hsz := S3.out.size
    obtain ⟨c0, c1, c2, c3⟩ := S3.out.box.four
    obtain ⟨v0, v1, v2⟩ := S3.out.veh.three
    obtain ⟨a0, a1, _, _⟩ := S3.out.arr.two
    go_upto_region 6 with fail
    go_cut [8, 9] from 19 (fun s8 s9 wx => ∃ g8 : Nat, s8 = .pointer (some ⟨g8, 0, none⟩) ∧ s9 = .int .i64 f ∧ VS w wx L H v p j ∧ wx.cell? ⟨g8, 0, none⟩ = some (.int .i64 a) ∧ wx.cell? ⟨g8, 1, none⟩ = some (.int .i64 b))
    case first =>
      go_region_held3 (fun W => VS w W L H v p j ∧ W.cell? ⟨w.heap.size, 0, none⟩ = some (.string L.name) ∧ W.cell? ⟨w.heap.size, 1, none⟩ = some (.slice H.j.A L.js.length H.j.c) ∧ W.cell? ⟨w.heap.size, 2, none⟩ = some (.slice H.b.A L.bs.length H.b.c) ∧ W.cell? ⟨w.heap.size, 3, none⟩ = some (.slice H.s.A L.ss.length H.s.c) ∧ W.cell? ⟨w.heap.size + 1, 0, none⟩ = some (.int .i64 v.len) ∧ W.cell? ⟨w.heap.size + 1, 1, none⟩ = some (.int .i64 v.clear) ∧ W.cell? ⟨w.heap.size + 1, 2, none⟩ = some (.int .i64 v.step) ∧ W.cell? ⟨w.heap.size + 2, 0, none⟩ = some (.int .i64 p) ∧ W.cell? ⟨w.heap.size + 2, 1, none⟩ = some (.int .i64 j))
        ((go_split_ands; refine VS.all ?_; (first | assumption | exact S3.out.drew | (repeat (first | assumption | exact S3.out | refine VS.alloc ?_ _ | refine VS.drew ?_ | (refine VS.set ?_ (by first | omega | (simp; omega)) _)))); done))
        ((first | (go_at_call 18; go_split_ands; refine (Copy_at L H HL.out HH.out _ (VS.lnW (w := w) (v := v) (p := p) (j := j) (by assumption))).mono ?_; rintro e w4 ⟨G4, rfl, hG4, hb4⟩; have S4 : VS w w4 L H v p j := VS.from hb4 (by assumption); have z4 := S4.size; have A4 := Lib.hid hG4; clear hG4; (first | (have N0 : Bk w4 w3.heap.size 54 #[.int .i64 0, .int .i64 0] := Bk.call ((Bk.new w3 54 #[.int .i64 0, .int .i64 0]).drew) hb4; obtain ⟨n0, n1, n2, n3⟩ := N0.two) | skip)) | (go_at_call 54; go_split_ands; refine (HDV.out G4 _ (by first | exact A4.out | exact A4.out.allocW _)).mono ?_; rintro e w5 ⟨rfl, hb5⟩; have S5 : VS w w5 L H v p j := VS.from hb5 (by assumption); have z5 := S5.size; (first | (have M0 : Bk w5 w3.heap.size 54 #[.int .i64 0, .int .i64 0] := Bk.call N0 hb5; obtain ⟨m0, m1, m2, m3⟩ := M0.two) | skip); (first | (have K0 : Bk w5 w4.heap.size 54 #[.int .i64 0, .int .i64 0] := Bk.call (Bk.new w4 54 #[.int .i64 0, .int .i64 0]) hb5; obtain ⟨k0, k1, k2, k3⟩ := K0.two) | skip)) | fail "arm"))
      all_goals
        go_split_ands
        go_wp2_with fail
        go_meet
        refine ⟨_, rfl, rfl, by assumption, ?_, ?_⟩
      all_goals (first | (go_simp; done) | (simp [*]; done) | skip)
    case rest =>
      obtain ⟨g8, rfl, rfl, hV, k0, k1⟩ := hcut
      have D0 := Lib.hid (VD.mk hV k0 k1)
      clear hV k0 k1 S3 c0 c1 c2 c3 v0 v1 v2 a0 a1 hsz
      obtain ⟨c0, c1, c2, c3⟩ := D0.out.s.box.four
      obtain ⟨v0, v1, v2⟩ := D0.out.s.veh.three
      obtain ⟨a0, a1, _, _⟩ := D0.out.s.arr.two
      go_wp2_with fail
      refine (VehicleErr_any v _).mono ?_
      rintro e w6 ⟨rfl, hb6⟩
      rw [HVE.out]
      have D1 := Lib.hid (VD.from hb6 D0.out)
      clear hb6 D0 c0 c1 c2 c3 v0 v1 v2 a0 a1
      have kd := KD.out
      clear KD HDV
      cases kd with
      | line m1 m2 er h he =>
        have HC := Lib.hid h
        have ge : (f != 0) = true := by simp [he]
        have gf : (f == 0) = false := by simp [he]
        clear h he
        obtain ⟨c0, c1, c2, c3⟩ := D1.out.s.box.four
        obtain ⟨v0, v1, v2⟩ := D1.out.s.veh.three
        obtain ⟨a0, a1, _, _⟩ := D1.out.s.arr.two
        have k0 := D1.out.k0
        have k1 := D1.out.k1
        go_wp2_with fail
        refine (LineErr_at HC.out H HL.out _ D1.out.s.lnW).mono ?_
        rintro e w7 ⟨rfl, hb7⟩
        have D2 := Lib.hid (VD.from hb7 D1.out)
        clear hb7 D1
        clear c0 c1 c2 c3 v0 v1 v2 a0 a1 k0 k1
        have k0 := D2.out.k0
        have k1 := D2.out.k1
        go_wp2_with fail
        go_quiet (fail)
        all_goals
          go_wp2_with fail
          go_ret
          exact ⟨rfl, by first | exact D2.out.s.bl | exact D2.out.s.bl.drew | exact below_drewN D2.out.s.bl _⟩
      | veh hr hck er h he =>
        have HC := Lib.hid hck
        have hde : d = f := by rw [← HVE.out, h]
        subst hde
        have ge : (d != 0) = true := by simp [he]
        have gf : (d == 0) = false := by simp [he]
        clear h he hr hck
        obtain ⟨c0, c1, c2, c3⟩ := D1.out.s.box.four
        obtain ⟨v0, v1, v2⟩ := D1.out.s.veh.three
        obtain ⟨a0, a1, _, _⟩ := D1.out.s.arr.two
        have k0 := D1.out.k0
        have k1 := D1.out.k1
        go_wp2_with fail
        refine (LineErr_at HC.out H HL.out _ D1.out.s.lnW).mono ?_
        rintro e w7 ⟨rfl, hb7⟩
        have D2 := Lib.hid (VD.from hb7 D1.out)
        clear hb7 D1
        clear c0 c1 c2 c3 v0 v1 v2 a0 a1 k0 k1
        have k0 := D2.out.k0
        have k1 := D2.out.k1
        go_wp2_with fail
        go_quiet (fail)
        all_goals
          go_wp2_with fail
          go_ret
          exact ⟨rfl, by first | exact D2.out.s.bl | exact D2.out.s.bl.drew | exact below_drewN D2.out.s.bl _⟩
      | pose hr hck hv h =>
        have HC := Lib.hid hck
        have HR := Lib.hid hr
        have HV := Lib.hid hv
        have HE := Lib.hid h
        have hd0 : d = 0 := by rw [← HVE.out, hv]
        subst hd0
        clear h hr hck hv
        obtain ⟨c0, c1, c2, c3⟩ := D1.out.s.box.four
        obtain ⟨v0, v1, v2⟩ := D1.out.s.veh.three
        obtain ⟨a0, a1, _, _⟩ := D1.out.s.arr.two
        have k0 := D1.out.k0
        have k1 := D1.out.k1
        go_wp2_with fail
        refine (LineErr_at HC.out H HL.out _ D1.out.s.lnW).mono ?_
        rintro e w7 ⟨rfl, hb7⟩
        have D2 := Lib.hid (VD.from hb7 D1.out)
        clear hb7 D1
        clear c0 c1 c2 c3 v0 v1 v2 a0 a1 k0 k1
        obtain ⟨c0, c1, c2, c3⟩ := D2.out.s.box.four
        obtain ⟨v0, v1, v2⟩ := D2.out.s.veh.three
        obtain ⟨a0, a1, _, _⟩ := D2.out.s.arr.two
        have k0 := D2.out.k0
        have k1 := D2.out.k1
        go_wp2_with fail
        refine (PoseErr_at HR.out HV.out HE.out H HL.out _ D2.out.s.lnW).mono ?_
        rintro e w8 ⟨rfl, hb8⟩
        have D3 := Lib.hid (VD.from hb8 D2.out)
        clear hb8 D2
        clear c0 c1 c2 c3 v0 v1 v2 a0 a1 k0 k1
        have k0 := D3.out.k0
        have k1 := D3.out.k1
        go_wp2_with fail
        go_quiet (fail)
        all_goals
          go_wp2_with fail
          go_ret
          exact ⟨rfl, by first | exact D3.out.s.bl | exact D3.out.s.bl.drew | exact below_drewN D3.out.s.bl _⟩
      | not hr hck hv h p0 pT hb =>
        have HC := Lib.hid hck
        have HR := Lib.hid hr
        have HV := Lib.hid hv
        have HE := Lib.hid h
        have HB := Lib.hid ((ben_mem hr hv p0 pT j).trans hb)
        have HYE := Lib.hid hb
        have hlen := benL_len L v p L.js.length
        have hnj := HL.out.nj
        have pm : p ≤ 2000000 := by have := (placeL_bound L.bs hr.b L.bs.length (Nat.le_refl _)).2; have := hr.most; obtain ⟨⟨l1, l2⟩, _⟩ := vErr_in hv; omega
        have hll : (benL L v p L.js.length).length ≤ 1000 := by omega
        have HT := Lib.hid pT
        have hd0 : d = 0 := by rw [← HVE.out, hv]
        subst hd0
        clear h hr hck hv hb pT hlen
        obtain ⟨c0, c1, c2, c3⟩ := D1.out.s.box.four
        obtain ⟨v0, v1, v2⟩ := D1.out.s.veh.three
        obtain ⟨a0, a1, _, _⟩ := D1.out.s.arr.two
        have k0 := D1.out.k0
        have k1 := D1.out.k1
        go_wp2_with fail
        refine (LineErr_at HC.out H HL.out _ D1.out.s.lnW).mono ?_
        rintro e w7 ⟨rfl, hb7⟩
        have D2 := Lib.hid (VD.from hb7 D1.out)
        clear hb7 D1
        clear c0 c1 c2 c3 v0 v1 v2 a0 a1 k0 k1
        obtain ⟨c0, c1, c2, c3⟩ := D2.out.s.box.four
        obtain ⟨v0, v1, v2⟩ := D2.out.s.veh.three
        obtain ⟨a0, a1, _, _⟩ := D2.out.s.arr.two
        have k0 := D2.out.k0
        have k1 := D2.out.k1
        go_wp2_with fail
        refine (PoseErr_at HR.out HV.out HE.out H HL.out _ D2.out.s.lnW).mono ?_
        rintro e w8 ⟨rfl, hb8⟩
        have D3 := Lib.hid (VD.from hb8 D2.out)
        clear hb8 D2
        clear c0 c1 c2 c3 v0 v1 v2 a0 a1 k0 k1
        obtain ⟨c0, c1, c2, c3⟩ := D3.out.s.box.four
        obtain ⟨v0, v1, v2⟩ := D3.out.s.veh.three
        obtain ⟨a0, a1, _, _⟩ := D3.out.s.arr.two
        have k0 := D3.out.k0
        have k1 := D3.out.k1
        go_wp2_with fail
        go_region_held3 (fun W => VD w W L H v p j g8 0 0 ∧ W.cell? ⟨w.heap.size, 0, none⟩ = some (.string L.name) ∧ W.cell? ⟨w.heap.size, 1, none⟩ = some (.slice H.j.A L.js.length H.j.c) ∧ W.cell? ⟨w.heap.size, 2, none⟩ = some (.slice H.b.A L.bs.length H.b.c) ∧ W.cell? ⟨w.heap.size, 3, none⟩ = some (.slice H.s.A L.ss.length H.s.c) ∧ W.cell? ⟨w.heap.size + 1, 0, none⟩ = some (.int .i64 v.len) ∧ W.cell? ⟨w.heap.size + 1, 1, none⟩ = some (.int .i64 v.clear) ∧ W.cell? ⟨w.heap.size + 1, 2, none⟩ = some (.int .i64 v.step) ∧ W.cell? ⟨w.heap.size + 2, 0, none⟩ = some (.int .i64 p) ∧ W.cell? ⟨w.heap.size + 2, 1, none⟩ = some (.int .i64 j) ∧ W.cell? ⟨g8, 0, none⟩ = some (.int .i64 0) ∧ W.cell? ⟨g8, 1, none⟩ = some (.int .i64 0))
          ((go_split_ands; first | exact VD.all (by assumption) | exact VD.all (VD.from (by assumption) (by assumption)) | exact VD.all D3.out.drew | fail "keep"))
          ((first | (go_at_call 58; go_split_ands; refine (Beneath_any HR.out HV.out p p0 pm H HL.out _ (VS.lnW (w := w) (v := v) (p := p) (j := j) (VD.s (g := g8) (a := 0) (b := 0) (by assumption)))).mono ?_; rintro e w9 ⟨gl, rfl, hLi, hb⟩; have LI := Lib.hid hLi; clear hLi) | (go_at_call 57; go_split_ands; refine (Has_any (benL L v p L.js.length) gl j hll _ LI.out).mono ?_; rintro e w' ⟨rfl, rfl⟩; rw [HB.out]) | fail "arm"))
        all_goals
          go_split_ands
          clear c0 c1 c2 c3 v0 v1 v2 a0 a1 k0 k1
          have D4 : Hid (VD w w9 L H v p j g8 0 0) := Lib.hid (by assumption)
          go_wp2_with fail
          go_ret
          exact ⟨rfl, by first | exact D4.out.s.bl | exact D4.out.s.bl.drew | exact below_drewN D4.out.s.bl _⟩
      | yes hr hck hv h p0 pT hb _ _ ha hb2 =>
        have HC := Lib.hid hck
        have HR := Lib.hid hr
        have HV := Lib.hid hv
        have HE := Lib.hid h
        have HA1 := Lib.hid ha
        have HA2 := Lib.hid hb2
        clear ha hb2
        have HB := Lib.hid ((ben_mem hr hv p0 pT j).trans hb)
        have HYE := Lib.hid hb
        have hlen := benL_len L v p L.js.length
        have hnj := HL.out.nj
        have pm : p ≤ 2000000 := by have := (placeL_bound L.bs hr.b L.bs.length (Nat.le_refl _)).2; have := hr.most; obtain ⟨⟨l1, l2⟩, _⟩ := vErr_in hv; omega
        have hll : (benL L v p L.js.length).length ≤ 1000 := by omega
        have HT := Lib.hid pT
        have hd0 : d = 0 := by rw [← HVE.out, hv]
        subst hd0
        clear h hr hck hv hb pT hlen
        obtain ⟨c0, c1, c2, c3⟩ := D1.out.s.box.four
        obtain ⟨v0, v1, v2⟩ := D1.out.s.veh.three
        obtain ⟨a0, a1, _, _⟩ := D1.out.s.arr.two
        have k0 := D1.out.k0
        have k1 := D1.out.k1
        go_wp2_with fail
        refine (LineErr_at HC.out H HL.out _ D1.out.s.lnW).mono ?_
        rintro e w7 ⟨rfl, hb7⟩
        have D2 := Lib.hid (VD.from hb7 D1.out)
        clear hb7 D1
        clear c0 c1 c2 c3 v0 v1 v2 a0 a1 k0 k1
        obtain ⟨c0, c1, c2, c3⟩ := D2.out.s.box.four
        obtain ⟨v0, v1, v2⟩ := D2.out.s.veh.three
        obtain ⟨a0, a1, _, _⟩ := D2.out.s.arr.two
        have k0 := D2.out.k0
        have k1 := D2.out.k1
        go_wp2_with fail
        refine (PoseErr_at HR.out HV.out HE.out H HL.out _ D2.out.s.lnW).mono ?_
        rintro e w8 ⟨rfl, hb8⟩
        have D3 := Lib.hid (VD.from hb8 D2.out)
        clear hb8 D2
        clear c0 c1 c2 c3 v0 v1 v2 a0 a1 k0 k1
        obtain ⟨c0, c1, c2, c3⟩ := D3.out.s.box.four
        obtain ⟨v0, v1, v2⟩ := D3.out.s.veh.three
        obtain ⟨a0, a1, _, _⟩ := D3.out.s.arr.two
        have k0 := D3.out.k0
        have k1 := D3.out.k1
        go_wp2_with fail
        go_region_held3 (fun W => VD w W L H v p j g8 a b ∧ W.cell? ⟨w.heap.size, 0, none⟩ = some (.string L.name) ∧ W.cell? ⟨w.heap.size, 1, none⟩ = some (.slice H.j.A L.js.length H.j.c) ∧ W.cell? ⟨w.heap.size, 2, none⟩ = some (.slice H.b.A L.bs.length H.b.c) ∧ W.cell? ⟨w.heap.size, 3, none⟩ = some (.slice H.s.A L.ss.length H.s.c) ∧ W.cell? ⟨w.heap.size + 1, 0, none⟩ = some (.int .i64 v.len) ∧ W.cell? ⟨w.heap.size + 1, 1, none⟩ = some (.int .i64 v.clear) ∧ W.cell? ⟨w.heap.size + 1, 2, none⟩ = some (.int .i64 v.step) ∧ W.cell? ⟨w.heap.size + 2, 0, none⟩ = some (.int .i64 p) ∧ W.cell? ⟨w.heap.size + 2, 1, none⟩ = some (.int .i64 j) ∧ W.cell? ⟨g8, 0, none⟩ = some (.int .i64 a) ∧ W.cell? ⟨g8, 1, none⟩ = some (.int .i64 b))
          ((go_split_ands; first | exact VD.all (by assumption) | exact VD.all (VD.from (by assumption) (by assumption)) | exact VD.all D3.out.drew | fail "keep"))
          ((first | (go_at_call 58; go_split_ands; refine (Beneath_any HR.out HV.out p p0 pm H HL.out _ (VS.lnW (w := w) (v := v) (p := p) (j := j) (VD.s (g := g8) (a := a) (b := b) (by assumption)))).mono ?_; rintro e w9 ⟨gl, rfl, hLi, hb⟩; have LI := Lib.hid hLi; clear hLi) | (go_at_call 57; go_split_ands; refine (Has_any (benL L v p L.js.length) gl j hll _ LI.out).mono ?_; rintro e w' ⟨rfl, rfl⟩; rw [HB.out]) | fail "arm"))
        all_goals
          go_split_ands
          clear c0 c1 c2 c3 v0 v1 v2 a0 a1 k0 k1
          have D4 : Hid (VD w w9 L H v p j g8 a b) := Lib.hid (by assumption)
          go_wp2_with fail
          go_region_held3 (fun W => VD w W L H v p j g8 a b ∧ W.cell? ⟨w.heap.size, 0, none⟩ = some (.string L.name) ∧ W.cell? ⟨w.heap.size, 1, none⟩ = some (.slice H.j.A L.js.length H.j.c) ∧ W.cell? ⟨w.heap.size, 2, none⟩ = some (.slice H.b.A L.bs.length H.b.c) ∧ W.cell? ⟨w.heap.size, 3, none⟩ = some (.slice H.s.A L.ss.length H.s.c) ∧ W.cell? ⟨w.heap.size + 1, 0, none⟩ = some (.int .i64 v.len) ∧ W.cell? ⟨w.heap.size + 1, 1, none⟩ = some (.int .i64 v.clear) ∧ W.cell? ⟨w.heap.size + 1, 2, none⟩ = some (.int .i64 v.step) ∧ W.cell? ⟨w.heap.size + 2, 0, none⟩ = some (.int .i64 p) ∧ W.cell? ⟨w.heap.size + 2, 1, none⟩ = some (.int .i64 j) ∧ W.cell? ⟨g8, 0, none⟩ = some (.int .i64 a) ∧ W.cell? ⟨g8, 1, none⟩ = some (.int .i64 b))
            ((go_split_ands; first | exact VD.all (by assumption) | exact VD.all (VD.from (by assumption) (by assumption)) | exact VD.all D4.out.drew | fail "keep"))
            ((first | (go_at_call 59; go_split_ands; refine (refDeviationAt_at HR.out HV.out p0 HT.out HYE.out HA1.out HA2.out H HL.out _ (VS.lnW (w := w) (v := v) (p := p) (j := j) (VD.s (g := g8) (a := a) (b := b) (by assumption)))).mono ?_; rintro e w10 ⟨rfl, hb⟩) | fail "arm"))
          all_goals
            go_split_ands
            go_wp2_with fail
            go_ret
            exact ⟨rfl, VS.bl (VD.s (g := g8) (a := a) (b := b) (by assumption))⟩
end Go.Proofs.Ytmnlgeglmkdecaa
