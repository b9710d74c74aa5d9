/-
  The walk of DeviationAt at a pose.
-/
import Derived.Test.YtmnlgeglmkdecaaBen
import Derived.Test.YtmnlgeglmkdecaaPose
namespace Go.Proofs.Ytmnlgeglmkdecaa
open Go.RowKit
attribute [local go_sem] Oper.semAt_some

theorem placeL_lt {L : Ll} (hr : Right L) {k : Nat} : ∀ {m : Nat}, k < m → m ≤ L.bs.length → placeL L.bs k < placeL L.bs m
  | 0, h, _ => by omega
  | m + 1, h, hm => by
    have hs := placeL_succ L.bs m (by omega)
    have hl := beam_len (hr.b _ (List.getElem_mem (show m < L.bs.length by omega)))
    by_cases e : k = m
    · subst e; omega
    · have := placeL_lt hr (k := k) (m := m) (by omega) (by omega); omega
/-- The first joint at a place or beyond it. -/
def frontOf (L : Ll) (q : Int) : Nat := if placeL L.bs (beamOf L q) = q then beamOf L q else beamOf L q + 1
theorem frontOf_at {L : Ll} (hr : Right L) {p n : Int} (p0 : 0 ≤ p) (n0 : 0 < n) (hT : p + n ≤ placeL L.bs L.bs.length) :
    frontOf L (p + n) ≤ L.bs.length ∧ beamOf L p < frontOf L (p + n) ∧ (∀ k, beamOf L p < k → k < frontOf L (p + n) → placeL L.bs k < p + n) ∧ p + n ≤ placeL L.bs (frontOf L (p + n)) := by
  obtain ⟨a, b, c⟩ := beamOf_at hr p0
  obtain ⟨a', b', c'⟩ := beamOf_at hr (show 0 ≤ p + n by omega)
  have hle : beamOf L p ≤ beamOf L (p + n) := by
    by_cases h : beamOf L p ≤ beamOf L (p + n)
    · exact h
    · have := c' (beamOf L p) (by omega) a; omega
  unfold frontOf
  split
  · rename_i e
    refine ⟨by omega, ?_, fun k _ hk => ?_, by omega⟩
    · by_cases h : beamOf L p = beamOf L (p + n)
      · rw [h] at b; omega
      · omega
    · have := placeL_lt hr hk (by omega); omega
  · rename_i e
    refine ⟨by omega, by omega, fun k _ hk => ?_, ?_⟩
    · by_cases h : k = beamOf L (p + n)
      · subst h; omega
      · have := placeL_lt hr (show k < beamOf L (p + n) by omega) (by omega); omega
    · by_cases h : beamOf L (p + n) + 1 = L.bs.length
      · rw [h]; exact hT
      · have := c' _ (show beamOf L (p + n) < beamOf L (p + n) + 1 by omega) (by omega); omega

/-- Is a joint beneath a pose? -/
def benB (L : Ll) (v : Lv) (p j : Int) : Bool := decide ((beamOf L p : Int) < j) && decide (j < (frontOf L (p + v.len) : Int))
def devAns (L : Ll) (v : Lv) (p j : Int) : Value := if benB L v p j = true then .tuple #[.agg #[.int .i64 (devLo L v p j.toNat), .int .i64 (devHi L v p j.toNat)], .int .i64 0] else .tuple #[.agg #[.int .i64 0, .int .i64 0], .int .i64 6]

theorem Bk.new3 (w : World) (o o' o2 : Obj) (t : TypeId) (cs : Array Value) : Bk ((((w.alloc o).alloc o').alloc o2).alloc (.cells cs t)) (w.heap.size + 1 + 1 + 1) t cs := by
  have := Bk.new (((w.alloc o).alloc o').alloc o2) t cs
  rwa [World.size_alloc, World.size_alloc, World.size_alloc] at this
theorem Bk.new4 (w : World) (o o' o2 o3 : Obj) (t : TypeId) (cs : Array Value) : Bk (((((w.alloc o).alloc o').alloc o2).alloc o3).alloc (.cells cs t)) (w.heap.size + 1 + 1 + 1 + 1) t cs := by
  have := Bk.new ((((w.alloc o).alloc o').alloc o2).alloc o3) t cs
  rwa [World.size_alloc, World.size_alloc, World.size_alloc, World.size_alloc] at this
theorem Bk.kept {W W' : World} {g : Nat} {t : TypeId} {cs : Array Value} {row : Option Nat} (h : Bk W g t cs) (hg : W.grownBy W' row) (hr : ∀ r, row = some r → ∃ o : Obj, W.heap[r]? = some o ∧ o.isCells = false) : Bk W' g t cs :=
  (hg.block g h.lt (fun e => by obtain ⟨o, ho, hc⟩ := hr g e.symm; unfold Bk at h; rw [h] at ho; cases ho; simp [Obj.isCells] at hc)).trans h
theorem benB_true {L : Ll} {v : Lv} {p : Int} {j : Nat} (h : beamOf L p < j) (h' : j < frontOf L (p + v.len)) : benB L v p j = true := by
  unfold benB; simp; omega

set_option maxRecDepth 100000 in
set_option maxHeartbeats 4000000 in
theorem DeviationAt_good {L : Ll} (hr : Right L) (hck : ckLine L = ((0, 0), 0)) (H : Hds) (hL : L.ok) (v : Lv) (hv : vErr v = 0) (p j : Int) (hp : inB p 0 (placeL L.bs L.bs.length - v.len) = true) (hm : p.tmod v.step = 0) (w : World) (hA : LnAt w w.heap.size L H) :
    Calls Try.prog 54 #[(.agg #[.string L.name, .slice H.j.A L.js.length H.j.c, .slice H.b.A L.bs.length H.b.c, .slice H.s.A L.ss.length H.s.c]), (.agg #[.int .i64 v.len, .int .i64 v.clear, .int .i64 v.step]), .agg #[.int .i64 p, .int .i64 j]] w fun e w' => e = .returned (devAns L v p j) ∧ Below w.heap.size w w' := by
  have b0 := (((((Below.refl w.heap.size w).alloc (Nat.le_refl _) (.cells #[.string L.name, .slice H.j.A L.js.length H.j.c, .slice H.b.A L.bs.length H.b.c, .slice H.s.A L.ss.length H.s.c] 26)).alloc (by simp) (.cells #[.int .i64 v.len, .int .i64 v.clear, .int .i64 v.step] 77)).alloc (by simp; omega) (.cells #[.int .i64 p, .int .i64 j] 78)).alloc (by simp; omega) (.cells #[.int .i64 0, .int .i64 0] 54)).alloc (by simp; omega) (.cells #[.int .i64 0] 31)
  have V0 := Lib.hid ((((Bk.new1 w (.cells #[.string L.name, .slice H.j.A L.js.length H.j.c, .slice H.b.A L.bs.length H.b.c, .slice H.s.A L.ss.length H.s.c] 26) 77 #[.int .i64 v.len, .int .i64 v.clear, .int .i64 v.step]).alloc (.cells #[.int .i64 p, .int .i64 j] 78)).alloc (.cells #[.int .i64 0, .int .i64 0] 54)).alloc (.cells #[.int .i64 0] 31))
  have A0 := Lib.hid (((Bk.new2 w (.cells #[.string L.name, .slice H.j.A L.js.length H.j.c, .slice H.b.A L.bs.length H.b.c, .slice H.s.A L.ss.length H.s.c] 26) (.cells #[.int .i64 v.len, .int .i64 v.clear, .int .i64 v.step] 77) 78 #[.int .i64 p, .int .i64 j]).alloc (.cells #[.int .i64 0, .int .i64 0] 54)).alloc (.cells #[.int .i64 0] 31))
  have HB := Lib.hid b0
  have R0 := Lib.hid ((Bk.new3 w (.cells #[.string L.name, .slice H.j.A L.js.length H.j.c, .slice H.b.A L.bs.length H.b.c, .slice H.s.A L.ss.length H.s.c] 26) (.cells #[.int .i64 v.len, .int .i64 v.clear, .int .i64 v.step] 77) (.cells #[.int .i64 p, .int .i64 j] 78) 54 #[.int .i64 0, .int .i64 0]).alloc (.cells #[.int .i64 0] 31))
  have E0 := Lib.hid (Bk.new4 w (.cells #[.string L.name, .slice H.j.A L.js.length H.j.c, .slice H.b.A L.bs.length H.b.c, .slice H.s.A L.ss.length H.s.c] 26) (.cells #[.int .i64 v.len, .int .i64 v.clear, .int .i64 v.step] 77) (.cells #[.int .i64 p, .int .i64 j] 78) (.cells #[.int .i64 0, .int .i64 0] 54) 31 #[.int .i64 0])
  have HA := Lib.hid ((hA.below b0).more b0.size)
  have HA0 := Lib.hid hA
  have HC := Lib.hid hck
  have HR := Lib.hid hr
  have HV := Lib.hid hv
  have HP0 := Lib.hid hp
  have HM := Lib.hid hm
  clear b0 hA hck hr hv hp hm
  refine (callsIn_wide (n := 8)).1 ?_
  refine callsIn_of_wp_marks Try.func54 rfl trivial ?_ rfl
  simp only [Try.ntmps54, List.size_toArray, List.length_cons, List.length_nil, Nat.reduceAdd, Nat.reduceSub, Array.replicate_succ, Array.replicate_zero, List.push_toArray, List.append_toArray, List.nil_append, List.cons_append]
  gi_wp2_with (first | (refine ⟨trivial, ?_⟩; gi_at_call 111; refine (callsIn_wide.2 (checkPose_good HR.out HC.out H hL v HV.out p HP0.out HM.out _ HA.out)).mono ?_; rintro e w1 ⟨g, rfl, hb1, hP, hg⟩; have HP := Lib.hid hP; clear hP; have V1 := Lib.hid ((V0.out.call hb1).alloc (.cells #[.string L.name, .slice H.j.A L.js.length H.j.c, .slice H.b.A L.bs.length H.b.c, .slice H.s.A L.ss.length H.s.c, .slice (some ⟨g, 0, none⟩) L.js.length L.js.length] 119)); have A1 := Lib.hid ((A0.out.call hb1).alloc (.cells #[.string L.name, .slice H.j.A L.js.length H.j.c, .slice H.b.A L.bs.length H.b.c, .slice H.s.A L.ss.length H.s.c, .slice (some ⟨g, 0, none⟩) L.js.length L.js.length] 119)); obtain ⟨v0, v1, v2⟩ := V1.out.three; obtain ⟨a0, a1, _, _⟩ := A1.out.two) | (refine ⟨trivial, ?_⟩; gi_at_call 112; refine (callsIn_wide.2 (beneath_any (L := L) H ⟨g, 0, none⟩ L.js.length v p _)).mono ?_; rintro e w2 ⟨rfl, hw2⟩; have HW2 := Lib.hid hw2; clear hw2))
  have b1 : Below w.heap.size w w2 := by
    rw [HW2.out]
    exact ((((Below.step HB.out hb1).alloc (Below.step HB.out hb1).size _).alloc (by have := (Below.step HB.out hb1).size; simp; omega) _).alloc (by have := (Below.step HB.out hb1).size; simp; omega) _).alloc (by have := (Below.step HB.out hb1).size; simp; omega) _
  have k12 : Below w1.heap.size w1 w2 := by
    rw [HW2.out]
    exact ((((Below.refl _ w1).alloc (Nat.le_refl _) _).alloc (by simp) _).alloc (by simp; omega) _).alloc (by simp; omega) _
  have hz : w2.heap.size = w1.heap.size + 4 := by rw [HW2.out]; simp
  have hs2 : w1.heap.size + 4 ≤ w2.heap.size := by omega
  have hs1 : w.heap.size + 5 ≤ w1.heap.size := by have := hb1.size; simp at this; omega
  have X2 := Lib.hid (show Bk w2 w1.heap.size 119 #[.string L.name, .slice H.j.A L.js.length H.j.c, .slice H.b.A L.bs.length H.b.c, .slice H.s.A L.ss.length H.s.c, .slice (some ⟨g, 0, none⟩) L.js.length L.js.length] by rw [HW2.out]; exact (((Bk.new w1 _ _).alloc _).alloc _).alloc _)
  have V2 := Lib.hid ((V0.out.call hb1).call k12)
  have A2 := Lib.hid ((A0.out.call hb1).call k12)
  have R2 := Lib.hid ((R0.out.call hb1).call k12)
  have E2 := Lib.hid ((E0.out.call hb1).call k12)
  have C2 := Lib.hid (show Bk w2 (w1.heap.size + 1) 119 #[.string L.name, .slice H.j.A L.js.length H.j.c, .slice H.b.A L.bs.length H.b.c, .slice H.s.A L.ss.length H.s.c, .slice (some ⟨g, 0, none⟩) L.js.length L.js.length] by rw [HW2.out]; exact ((Bk.new1 w1 _ _ _).alloc _).alloc _)
  have W2 := Lib.hid (show Bk w2 (w1.heap.size + 1 + 1) 77 #[.int .i64 v.len, .int .i64 v.clear, .int .i64 v.step] by rw [HW2.out]; exact (Bk.new2 w1 _ _ _ _).alloc _)
  have P2 := Lib.hid (show Bk w2 (w1.heap.size + 1 + 1 + 1) 3 #[.int .i64 p] by rw [HW2.out]; exact Bk.new3 w1 _ _ _ _ _)
  have L2 := Lib.hid (Lies.step HP.out k12)
  have LA := Lib.hid ((HA0.out.below b1).more b1.size)
  have B1 := Lib.hid b1
  obtain ⟨vl, _⟩ := vErr_in HV.out
  obtain ⟨p0, pT⟩ := inB_iff.1 HP0.out
  have p1 : p ≤ 2000000 := by have := (placeL_bound L.bs HR.out.b L.bs.length (Nat.le_refl _)).2; have := HR.out.most; omega
  obtain ⟨f1, f2, f3, f4⟩ := frontOf_at HR.out (p := p) (n := v.len) p0 (by omega) (by omega)
  have F3 := Lib.hid f3
  have F4 := Lib.hid f4
  have HG := Lib.hid hg
  clear b1 k12 hz HW2 V1 A1 v0 v1 v2 a0 a1 hb1 HP V0 A0 R0 E0 HB HA HA0 f3 f4 hg
  refine wpIn_rangeFunc_ownF (α := Ben (beamOf L p) (frontOf L (p + v.len))) rfl (by decide) (gf := 136) (lb := #[.pointer (some ⟨w1.heap.size + 1, 0, none⟩), .pointer (some ⟨w1.heap.size + 1 + 1 + 1, 0, none⟩), .pointer (some ⟨w1.heap.size + 1 + 1, 0, none⟩)]) rfl trivial (enters_of Try.func136 (by kernel_rfl) rfl)
    (encs := fun x => #[.int .i64 (x.1 : Int)]) (Kp := Below w2.heap.size) (S := fun ys => ys = jsB (beamOf L p) (frontOf L (p + v.len)) (frontOf L (p + v.len))) (Sp := fun pre => ∃ k, k ≤ frontOf L (p + v.len) ∧ pre = jsB (beamOf L p) (frontOf L (p + v.len)) k) (N := frontOf L (p + v.len) - (beamOf L p + 1)) (w0 := w2)
    (fun l J Jx W hW hJ _ hY h0 => beneath1_any (8 - 1) (by decide) HR.out H ⟨g, 0, none⟩ L.js.length v HV.out p p0 p1 (frontOf L (p + v.len)) f1 f2 F3.out F4.out l (w1.heap.size + 1) w2.heap.size J Jx
      (fun s A B hs hb => hJ s A B none hs (grown_of_below hb) (fun r e => by cases e)) hY W (by omega) hW.size (C2.out.below hW (by omega)) (W2.out.below hW (by omega)) (P2.out.below hW (by omega)) (L2.out.below hW) h0)
    belowK_t (belowK_b (Nat.le_refl _)) (Below.refl _ _) (fun _ => rfl)
    (fun pre W => (∀ y ∈ pre, ((y.1 : Nat) : Int) ≠ j) ∧ Below w2.heap.size w2 W)
    (fun c pre W => (c = .ret ∧ benB L v p j = true ∧ Bk W (w.heap.size + 1 + 1 + 1) 54 #[.int .i64 (devLo L v p j.toNat), .int .i64 (devHi L v p j.toNat)] ∧ Bk W (w.heap.size + 1 + 1 + 1 + 1) 31 #[.int .i64 0]) ∧ Below w.heap.size w W)
    (OwnFrom.and (fun s A B row hs _ _ => hs) (ownFrom_below (Nat.le_refl _) (Nat.le_refl _)))
    (fun c => OwnFrom.and (Own.from (fun s A B row hs hg hr => ⟨hs.1, hs.2.1, hs.2.2.1.kept hg hr, hs.2.2.2.kept hg hr⟩) _) (ownFrom_below (Nat.le_refl _) (by omega)))
    ⟨by simp, Below.refl _ _⟩
    (fun x => { tmps := #[(.agg #[.string L.name, .slice H.j.A L.js.length H.j.c, .slice H.b.A L.bs.length H.b.c, .slice H.s.A L.ss.length H.s.c]), (.agg #[.int .i64 v.len, .int .i64 v.clear, .int .i64 v.step]), .agg #[.int .i64 p, .int .i64 j], .pointer (some ⟨w.heap.size, 0, none⟩), .pointer (some ⟨w.heap.size + 1, 0, none⟩), .pointer (some ⟨w.heap.size + 1 + 1, 0, none⟩), .pointer (some ⟨w.heap.size + 1 + 1 + 1, 0, none⟩), .pointer (some ⟨w.heap.size + 1 + 1 + 1 + 1, 0, none⟩), .pointer (some ⟨w1.heap.size, 0, none⟩), .int .i64 0, .int .i64 (x.1 : Int),
      .tuple #[.agg #[.string L.name, .slice H.j.A L.js.length H.j.c, .slice H.b.A L.bs.length H.b.c, .slice H.s.A L.ss.length H.s.c, .slice (some ⟨g, 0, none⟩) L.js.length L.js.length], .int .i64 0], (.agg #[.string L.name, .slice H.j.A L.js.length H.j.c, .slice H.b.A L.bs.length H.b.c, .slice H.s.A L.ss.length H.s.c]), (.agg #[.int .i64 v.len, .int .i64 v.clear, .int .i64 v.step]), .pointer (some ⟨w.heap.size + 1 + 1, 0, none⟩), .int .i64 p, .tuple #[.agg #[.string L.name, .slice H.j.A L.js.length H.j.c, .slice H.b.A L.bs.length H.b.c, .slice H.s.A L.ss.length H.s.c, .slice (some ⟨g, 0, none⟩) L.js.length L.js.length], .int .i64 0], .agg #[.string L.name, .slice H.j.A L.js.length H.j.c, .slice H.b.A L.bs.length H.b.c, .slice H.s.A L.ss.length H.s.c, .slice (some ⟨g, 0, none⟩) L.js.length L.js.length], .int .i64 0, .int .i64 0, .bool false, undef, undef, .agg #[.string L.name, .slice H.j.A L.js.length H.j.c, .slice H.b.A L.bs.length H.b.c, .slice H.s.A L.ss.length H.s.c, .slice (some ⟨g, 0, none⟩) L.js.length L.js.length], (.agg #[.int .i64 v.len, .int .i64 v.clear, .int .i64 v.step]), .pointer (some ⟨w.heap.size + 1 + 1, 0, none⟩), .int .i64 p,
      .func (.func 136) #[] #[.pointer (some ⟨w1.heap.size + 1, 0, none⟩), .pointer (some ⟨w1.heap.size + 1 + 1 + 1, 0, none⟩), .pointer (some ⟨w1.heap.size + 1 + 1, 0, none⟩)], .int .i64 (x.1 : Int), undef, undef, undef, undef, undef, undef, undef, undef, undef, undef, undef], defers := [] }) ?assign ?body ?done ?stop
  case assign =>
    intro l x W K hK
    gi_wp2
    exact hK
  case body =>
    rintro l pre ⟨x, hx1, hx2⟩ W ⟨hne, hB⟩ hlen
    obtain ⟨a0, a1, _, _⟩ := (A2.out.below hB (by omega)).two
    have HW := Lib.hid hB
    have HN := Lib.hid hne
    have hd : 1 ≤ 8 - 1 - 1 := by decide
    clear hne hB
    by_cases e : (x : Int) = j
    · subst e
      obtain ⟨c0, c1, c2, c3, c4⟩ := (X2.out.below HW.out (by omega)).five
      obtain ⟨v0, v1, v2⟩ := (V2.out.below HW.out (by omega)).three
      have RW := Lib.hid (R2.out.below HW.out (by omega))
      have EW := Lib.hid (E2.out.below HW.out (by omega))
      have AW := Lib.hid ((LA.out.below HW.out).more HW.out.size)
      have LW := Lib.hid (Lies.step L2.out HW.out)
      have hxj : x < L.js.length := by have := HR.out.jb; omega
      have h2 := F3.out x hx1 hx2
      have h1 : p ≤ placeL L.bs x := by
        by_cases hxe : x < L.bs.length
        · have := (beamOf_at HR.out p0).2.2 x hx1 hxe; omega
        · omega
      have hT : p + v.len ≤ placeL L.bs L.bs.length := by omega
      have h3 : placeL L.bs x ≤ p + v.len := by omega
      gi_wp2_with (refine ⟨trivial, ?_⟩; gi_at_call 113; refine (CallsIn.inRound l (callsIn_wide.2 (deviation_at HR.out H ⟨g, 0, none⟩ L.js.length v HV.out p x p0 hT hxj h1 h3 _ AW.out LW.out))).mono ?_; rintro e w3 ⟨rfl, hb3⟩; have R3 := Lib.hid (RW.out.call hb3); have E3 := Lib.hid (EW.out.call hb3); obtain ⟨r0, r1, r2, r3⟩ := R3.out.two; obtain ⟨e0, e1⟩ := E3.out.one)
      have q1 := ((R3.out.put 0 (.int .i64 (devLo L v p x))).put 1 (.int .i64 (devHi L v p x))).far (p := ⟨w.heap.size + 1 + 1 + 1 + 1, 0, none⟩) (by simp) (.int .i64 0)
      have q2 := ((E3.out.far (p := ⟨w.heap.size + 1 + 1 + 1, 0, none⟩) (by simp) (.int .i64 (devLo L v p x))).far (p := ⟨w.heap.size + 1 + 1 + 1, 1, none⟩) (by simp) (.int .i64 (devHi L v p x))).put 0 (.int .i64 0)
      refine ⟨(keeps_of_below hb3).trans (((KeepsOthers.setCell _ _ _).trans (KeepsOthers.setCell _ _ _)).trans (KeepsOthers.setCell _ _ _)), ⟨rfl, benB_true hx1 hx2, ?_, ?_⟩, ?_⟩
      · rw [Int.toNat_natCast]; exact q1
      · exact q2
      · have b2 := Below.step (Below.step B1.out HW.out) hb3
        exact ((b2.setCell (by simp; omega) _).setCell (by simp; omega) _).setCell (by simp; omega) _
    · have e1 : ((x : Int) == j) = false := by simp [e]
      gi_wp2
      refine ⟨KeepsOthers.refl _, Below.refl _ _, ⟨fun y hy => ?_, HW.out⟩⟩
      rcases List.mem_append.1 hy with h | h
      · exact HN.out y h
      · simp at h; subst h; exact e
  case done =>
    rintro D ys W hD rfl ⟨hne, hB⟩ hK
    have hb : benB L v p j = false := by
      cases hx : benB L v p j with
      | false => rfl
      | true =>
        unfold benB at hx
        simp at hx
        obtain ⟨k, rfl⟩ := Int.eq_ofNat_of_zero_le (show 0 ≤ j by omega)
        exact absurd rfl (hne _ (jsB_has (k := frontOf L (p + v.len)) (by omega) (by omega) (by omega)))
    have R3 := Lib.hid (R2.out.below hB (by omega))
    have E3 := Lib.hid (E2.out.below hB (by omega))
    obtain ⟨r0, r1, r2, r3⟩ := R3.out.two
    obtain ⟨e0, e1⟩ := E3.out.one
    have HW := Lib.hid hB
    clear hne hB
    gi_wp2
    have ks := (((KeepsOthers.setCell W ⟨w.heap.size + 1 + 1 + 1, 0, none⟩ (.int .i64 0)).trans (KeepsOthers.setCell _ ⟨w.heap.size + 1 + 1 + 1, 1, none⟩ (.int .i64 0))).trans (KeepsOthers.setCell _ ⟨w.heap.size + 1 + 1 + 1 + 1, 0, none⟩ (.int .i64 6)))
    have q1 := ((R3.out.put 0 (.int .i64 0)).put 1 (.int .i64 0)).far (p := ⟨w.heap.size + 1 + 1 + 1 + 1, 0, none⟩) (by simp) (.int .i64 6)
    have q2 := ((E3.out.far (p := ⟨w.heap.size + 1 + 1 + 1, 0, none⟩) (by simp) (.int .i64 0)).far (p := ⟨w.heap.size + 1 + 1 + 1, 1, none⟩) (by simp) (.int .i64 0)).put 0 (.int .i64 6)
    have bl := (((Below.step B1.out HW.out).setCell (p := ⟨w.heap.size + 1 + 1 + 1, 0, none⟩) (by simp; omega) (.int .i64 0)).setCell (p := ⟨w.heap.size + 1 + 1 + 1, 1, none⟩) (by simp; omega) (.int .i64 0)).setCell (p := ⟨w.heap.size + 1 + 1 + 1 + 1, 0, none⟩) (by simp; omega) (.int .i64 6)
    have hK' := ks.same D _ hK rfl
    generalize ((W.setCell ⟨w.heap.size + 1 + 1 + 1, 0, none⟩ (.int .i64 0)).setCell ⟨w.heap.size + 1 + 1 + 1, 1, none⟩ (.int .i64 0)).setCell ⟨w.heap.size + 1 + 1 + 1 + 1, 0, none⟩ (.int .i64 6) = W5 at *
    refine ⟨by simp, .inl ⟨_, _, rfl, run_takeDeferred hK', ?_⟩⟩
    obtain ⟨u0, u1, _, _⟩ := (Bk.kept q1 (grownBy_putObj' W5 D (.deferred none)) (fun r e => by cases e; exact ⟨_, hK', rfl⟩)).two
    obtain ⟨u2, _⟩ := (Bk.kept q2 (grownBy_putObj' W5 D (.deferred none)) (fun r e => by cases e; exact ⟨_, hK', rfl⟩)).one
    refine ⟨.tuple #[.agg #[.int .i64 0, .int .i64 0], .int .i64 6], ?_, by unfold devAns; rw [hb]; rfl, bl.trans (belowK_b (w := w) (Nat.le_refl _) _ D _ _ (by omega) hK' rfl rfl)⟩
    simp [results, Try.f54, go_sem, u0, u1, u2]
  case stop =>
    rintro D c pre W hD hpre ⟨⟨rfl, hb, hr3, he3⟩, hB⟩ hK
    have R3 := Lib.hid hr3
    have E3 := Lib.hid he3
    clear hr3 he3
    gi_wp2
    refine ⟨by simp, .inl ⟨_, _, rfl, run_takeDeferred hK, ?_⟩⟩
    obtain ⟨u0, u1, _, _⟩ := (Bk.kept R3.out (grownBy_putObj' W D (.deferred none)) (fun r e => by cases e; exact ⟨_, hK, rfl⟩)).two
    obtain ⟨u2, _⟩ := (Bk.kept E3.out (grownBy_putObj' W D (.deferred none)) (fun r e => by cases e; exact ⟨_, hK, rfl⟩)).one
    refine ⟨.tuple #[.agg #[.int .i64 (devLo L v p j.toNat), .int .i64 (devHi L v p j.toNat)], .int .i64 0], ?_, by unfold devAns; rw [hb]; rfl, hB.trans (belowK_b (w := w) (Nat.le_refl _) W D _ _ (by omega) hK rfl rfl)⟩
    simp [results, Try.f54, go_sem, u0, u1, u2]
end Go.Proofs.Ytmnlgeglmkdecaa
