/-
  The walk of the reference's Surveyed.
-/
import Derived.Test.YtmnlgeglmkdecaaSurvP
namespace Go.Proofs.Ytmnlgeglmkdecaa
open Go.RowKit

set_option maxHeartbeats 4000000 in
set_option maxRecDepth 100000 in
theorem refSurveyed_order {L : Ll} (H : Hds) (jn flo fhi : Int) (ho : fhi < flo) (w : World) (hA : LnAt w w.heap.size L H) :
    Calls Try.prog 70 #[(.agg #[.string L.name, .slice H.j.A L.js.length H.j.c, .slice H.b.A L.bs.length H.b.c, .slice H.s.A L.ss.length H.s.c]), .int .i64 jn, .agg #[.int .i64 flo, .int .i64 fhi]] w fun e w' => e = .returned (.tuple #[.agg #[.string ⟨#[]⟩, .slice none 0 0, .slice none 0 0, .slice none 0 0], .int .i64 9]) ∧ Below w.heap.size w w' := by
  have b0 := (((Below.refl w.heap.size w).alloc (Nat.le_refl _) (.cells #[.string L.name, .slice H.j.A L.js.length H.j.c, .slice H.b.A L.bs.length H.b.c, .slice H.s.A L.ss.length H.s.c] 26)).alloc (by simp) (.cells #[.int .i64 flo, .int .i64 fhi] 54)).alloc (by simp; omega) (.cells #[.string ⟨#[]⟩, .slice none 0 0, .slice none 0 0, .slice none 0 0] 26)
  have X0 := Lib.hid (((Bk.new w 26 #[.string L.name, .slice H.j.A L.js.length H.j.c, .slice H.b.A L.bs.length H.b.c, .slice H.s.A L.ss.length H.s.c]).alloc (.cells #[.int .i64 flo, .int .i64 fhi] 54)).alloc (.cells #[.string ⟨#[]⟩, .slice none 0 0, .slice none 0 0, .slice none 0 0] 26))
  have F0 := Lib.hid ((Bk.new1 w (.cells #[.string L.name, .slice H.j.A L.js.length H.j.c, .slice H.b.A L.bs.length H.b.c, .slice H.s.A L.ss.length H.s.c] 26) 54 #[.int .i64 flo, .int .i64 fhi]).alloc (.cells #[.string ⟨#[]⟩, .slice none 0 0, .slice none 0 0, .slice none 0 0] 26))
  have R0 := Lib.hid (Bk.new2 w (.cells #[.string L.name, .slice H.j.A L.js.length H.j.c, .slice H.b.A L.bs.length H.b.c, .slice H.s.A L.ss.length H.s.c] 26) (.cells #[.int .i64 flo, .int .i64 fhi] 54) 26 #[.string ⟨#[]⟩, .slice none 0 0, .slice none 0 0, .slice none 0 0])
  have B0 := Lib.hid b0
  have A0 := Lib.hid (hA.below b0)
  clear b0 hA
  go_enter Try.func70, Try.ntmps70
  obtain ⟨p0, p1, _, _⟩ := F0.out.two
  obtain ⟨r0, r1, r2, r3⟩ := R0.out.four
  obtain ⟨f0, f1, f2, f3⟩ : _ ∧ _ ∧ _ ∧ _ := ⟨R0.out.frozen 0, R0.out.frozen 1, R0.out.frozen 2, R0.out.frozen 3⟩
  go_wp2_with fail
  refine bodyPost_ret (v := .tuple #[.agg #[.string ⟨#[]⟩, .slice none 0 0, .slice none 0 0, .slice none 0 0], .int .i64 9]) (by simp [results, Try.results70, go_sem, r0, r1, r2, r3]) rfl ⟨rfl, ?_⟩
  first | exact B0.out | exact B0.out.setCell (by first | omega | (simp; omega)) _ |>.setCell (by first | omega | (simp; omega)) _ |>.setCell (by first | omega | (simp; omega)) _ |>.setCell (by first | omega | (simp; omega)) _

set_option maxHeartbeats 8000000 in
set_option maxRecDepth 100000 in
theorem refSurveyed_clash {L : Ll} (hr : Right L) (H : Hds) (hL : L.ok) (hH : HdsOk H) (jn flo fhi : Int) {k : Nat} (hjn : jn = (k : Int)) {j : Lj} (hk : L.js[k]? = some j) (ho : flo ≤ fhi) (hc : min fhi (j.x + j.hi) < max flo (j.x + j.lo)) (w : World) (hA : LnAt w w.heap.size L H) :
    Calls Try.prog 70 #[(.agg #[.string L.name, .slice H.j.A L.js.length H.j.c, .slice H.b.A L.bs.length H.b.c, .slice H.s.A L.ss.length H.s.c]), .int .i64 jn, .agg #[.int .i64 flo, .int .i64 fhi]] w fun e w' => e = .returned (.tuple #[.agg #[.string ⟨#[]⟩, .slice none 0 0, .slice none 0 0, .slice none 0 0], .int .i64 13]) ∧ Below w.heap.size w w' := by
  have b0 := (((Below.refl w.heap.size w).alloc (Nat.le_refl _) (.cells #[.string L.name, .slice H.j.A L.js.length H.j.c, .slice H.b.A L.bs.length H.b.c, .slice H.s.A L.ss.length H.s.c] 26)).alloc (by simp) (.cells #[.int .i64 flo, .int .i64 fhi] 54)).alloc (by simp; omega) (.cells #[.string ⟨#[]⟩, .slice none 0 0, .slice none 0 0, .slice none 0 0] 26)
  have X0 := Lib.hid (((Bk.new w 26 #[.string L.name, .slice H.j.A L.js.length H.j.c, .slice H.b.A L.bs.length H.b.c, .slice H.s.A L.ss.length H.s.c]).alloc (.cells #[.int .i64 flo, .int .i64 fhi] 54)).alloc (.cells #[.string ⟨#[]⟩, .slice none 0 0, .slice none 0 0, .slice none 0 0] 26))
  have F0 := Lib.hid ((Bk.new1 w (.cells #[.string L.name, .slice H.j.A L.js.length H.j.c, .slice H.b.A L.bs.length H.b.c, .slice H.s.A L.ss.length H.s.c] 26) 54 #[.int .i64 flo, .int .i64 fhi]).alloc (.cells #[.string ⟨#[]⟩, .slice none 0 0, .slice none 0 0, .slice none 0 0] 26))
  have R0 := Lib.hid (Bk.new2 w (.cells #[.string L.name, .slice H.j.A L.js.length H.j.c, .slice H.b.A L.bs.length H.b.c, .slice H.s.A L.ss.length H.s.c] 26) (.cells #[.int .i64 flo, .int .i64 fhi] 54) 26 #[.string ⟨#[]⟩, .slice none 0 0, .slice none 0 0, .slice none 0 0])
  have B0 := Lib.hid b0
  have A0 := Lib.hid (hA.below b0)
  subst hjn
  obtain ⟨lo, hlo⟩ : ∃ m, max flo (j.x + j.lo) = m := ⟨_, rfl⟩
  obtain ⟨hi, hhi⟩ : ∃ m, min fhi (j.x + j.hi) = m := ⟨_, rfl⟩
  obtain ⟨j0, j1, j2, j3, j4, j5, j6⟩ := joint_in (hr.j j (List.mem_of_getElem? hk))
  have t1 := IntWalk.i64_in (j.x + j.lo) (by omega)
  have t2 := IntWalk.i64_in (j.x + j.hi) (by omega)
  have V1 := Lib.hid (w64_in (j.x + j.lo) (by omega))
  have V2 := Lib.hid (w64_in (j.x + j.hi) (by omega))
  have g1 : ¬ fhi < flo := by omega
  have HLO := Lib.hid hlo
  have HHI := Lib.hid hhi
  have HJ := Lib.hid hk
  have HL := Lib.hid hL
  have HH := Lib.hid hH
  have hklt : k < L.js.length := (List.getElem?_eq_some_iff.1 hk).1
  have hlt' : (k : Int) < (L.js.length : Int) := by omega
  have g2 : hi < lo := by rw [hlo, hhi] at hc; exact hc
  clear b0 hA hr hL hH hlo hhi hk hc j0 j1 j2 j3 j4 j5 j6
  go_enter Try.func70, Try.ntmps70
  obtain ⟨x0, x1, x2, x3⟩ := X0.out.four
  obtain ⟨p0, p1, _, _⟩ := F0.out.two
  go_wp2_with fail
  refine (Copy_own L H HL.out HH.out _ (A0.out.more B0.out.size)).mono ?_
  rintro e w1 ⟨G, rfl, ho1, hb1⟩
  have X1 := Lib.hid (X0.out.call hb1)
  have R1 := Lib.hid (R0.out.call hb1)
  have F1 := Lib.hid (F0.out.call hb1)
  have B1 := Lib.hid (Below.step B0.out hb1)
  have O1 : Hid (OLn w1 (w.heap.size + 1 + 1 + 1) L G) := Lib.hid (by have h := ho1; simp at h; exact h)
  clear hb1 ho1 x0 x1 x2 x3 p0 p1 X0 R0 F0 B0 A0
  obtain ⟨x0, x1, x2, x3⟩ := X1.out.four
  obtain ⟨f0, f1, f2, f3⟩ : _ ∧ _ ∧ _ ∧ _ := ⟨X1.out.frozen 0, X1.out.frozen 1, X1.out.frozen 2, X1.out.frozen 3⟩
  have W2 : Hid (WF w ((((w1.setCell ⟨w.heap.size, 0, none⟩ (.string L.name)).setCell ⟨w.heap.size, 1, none⟩ (.slice G.j.A L.js.length G.j.c)).setCell ⟨w.heap.size, 2, none⟩ (.slice G.b.A L.bs.length G.b.c)).setCell ⟨w.heap.size, 3, none⟩ (.slice G.s.A L.ss.length G.s.c)) L L.js G w.heap.size (w.heap.size + 1 + 1) (w.heap.size + 1 + 1 + 1)) := Lib.hid
    ⟨(((X1.out.put 0 _).put 1 _).put 2 _).put 3 _, (((R1.out.far (by simp; omega) _).far (by simp; omega) _).far (by simp; omega) _).far (by simp; omega) _,
      (((O1.out.far (by show w.heap.size < _; omega) _).far (by show w.heap.size < _; omega) _).far (by show w.heap.size < _; omega) _).far (by show w.heap.size < _; omega) _,
      (((B1.out.setCell (Nat.le_refl _) _).setCell (Nat.le_refl _) _).setCell (Nat.le_refl _) _).setCell (Nat.le_refl _) _, rfl, by omega, by omega⟩
  have F2 : Hid (Bk ((((w1.setCell ⟨w.heap.size, 0, none⟩ (.string L.name)).setCell ⟨w.heap.size, 1, none⟩ (.slice G.j.A L.js.length G.j.c)).setCell ⟨w.heap.size, 2, none⟩ (.slice G.b.A L.bs.length G.b.c)).setCell ⟨w.heap.size, 3, none⟩ (.slice G.s.A L.ss.length G.s.c)) (w.heap.size + 1) 54 #[.int .i64 flo, .int .i64 fhi]) := Lib.hid
    ((((F1.out.far (by simp) _).far (by simp) _).far (by simp) _).far (by simp) _)
  obtain ⟨w2, hw2⟩ : ∃ W, ((((w1.setCell ⟨w.heap.size, 0, none⟩ (.string L.name)).setCell ⟨w.heap.size, 1, none⟩ (.slice G.j.A L.js.length G.j.c)).setCell ⟨w.heap.size, 2, none⟩ (.slice G.b.A L.bs.length G.b.c)).setCell ⟨w.heap.size, 3, none⟩ (.slice G.s.A L.ss.length G.s.c)) = W := ⟨_, rfl⟩
  rw [hw2] at W2 F2
  obtain ⟨z0, z1, z2, z3⟩ := W2.out.box.four
  go_upto_region 4 with fail
  (try simp only [hw2])
  clear hw2 x0 x1 x2 x3 f0 f1 f2 f3 X1 R1 F1 B1 O1
  obtain ⟨g, hg, hgB, hgl⟩ := W2.out.own.row (by show 0 < L.js.length; omega)
  obtain ⟨a2, ha2, hab, y0, y1, y2, y3⟩ := W2.out.own.at_.j.joint HJ.out
  have hag : a2 = ⟨g, 0, none⟩ := by rw [hg] at ha2; injection ha2 with ha2; exact ha2.symm
  obtain ⟨⟨Aj2, cj2⟩, Gb, Gs, each2⟩ := G
  simp only at ha2 hg
  subst ha2
  have HAG := Lib.hid hag
  have HG := Lib.hid hg
  have HAD : Hid (a2.add (k * 4) = ⟨g, k * 4, none⟩) := Lib.hid (by rw [HAG.out]; exact add_zero g (k * 4))
  have FZ : Hid (∀ (W : World) (B n c : Nat) (xs : List Value), W.ownsRow B 56 4 (.slice (some a2) n c) n xs → ∀ i, W.frozen? ⟨g, i, none⟩ = false) := Lib.hid (fun W B n c xs h i => by
    rw [HAG.out] at h
    exact h.frozenAt i)
  clear hag hg
  obtain ⟨p0, p1, _, _⟩ := F2.out.two
  go_upto_region 5 with fail
  go_cut [9, 10] from 23 to 48 (fun s9 s10 wx => s9 = .int .i64 lo ∧ s10 = .int .i64 hi ∧ WF w wx L L.js ⟨⟨some a2, cj2⟩, Gb, Gs, each2⟩ w.heap.size (w.heap.size + 1 + 1) (w.heap.size + 1 + 1 + 1))
  case first =>
    (first | go_region | fail "region5")
    all_goals
      go_wp2_with fail
      all_goals
        go_meet
        exact ⟨congrArg (Value.int .i64) (by have := HLO.out; omega), congrArg (Value.int .i64) (by have := HHI.out; omega), by first | exact W2.out | exact W2.out.drew⟩
  case rest =>
  obtain ⟨rfl, rfl, hW3⟩ := hcut
  have W3 := Lib.hid hW3
  clear hW3 W2 F2 z0 z1 z2 z3 y0 y1 y2 y3 p0 p1
  obtain ⟨r0, r1, r2, r3⟩ := W3.out.res.four
  obtain ⟨f0, f1, f2, f3⟩ : _ ∧ _ ∧ _ ∧ _ := ⟨W3.out.res.frozen 0, W3.out.res.frozen 1, W3.out.res.frozen 2, W3.out.res.frozen 3⟩
  go_wp2_with fail
  refine bodyPost_ret (v := .tuple #[.agg #[.string ⟨#[]⟩, .slice none 0 0, .slice none 0 0, .slice none 0 0], .int .i64 13]) (by simp [results, Try.results70, go_sem, r0, r1, r2, r3]) rfl ⟨rfl, ?_⟩
  exact W3.out.bl.setCell (by first | omega | (simp; omega)) _ |>.setCell (by first | omega | (simp; omega)) _ |>.setCell (by first | omega | (simp; omega)) _ |>.setCell (by first | omega | (simp; omega)) _

set_option maxHeartbeats 8000000 in
set_option maxRecDepth 100000 in
theorem refSurveyed_good {L : Ll} (hr : Right L) (H : Hds) (hL : L.ok) (hH : HdsOk H) (jn flo fhi : Int) {k : Nat} (hjn : jn = (k : Int)) {j : Lj} (hk : L.js[k]? = some j) (ho : flo ≤ fhi) (hc : max flo (j.x + j.lo) ≤ min fhi (j.x + j.hi)) (w : World) (hA : LnAt w w.heap.size L H) :
    Calls Try.prog 70 #[(.agg #[.string L.name, .slice H.j.A L.js.length H.j.c, .slice H.b.A L.bs.length H.b.c, .slice H.s.A L.ss.length H.s.c]), .int .i64 jn, .agg #[.int .i64 flo, .int .i64 fhi]] w fun e w' => ∃ G : Hds, e = .returned (.tuple #[.agg #[.string L.name, .slice G.j.A L.js.length G.j.c, .slice G.b.A L.bs.length G.b.c, .slice G.s.A L.ss.length G.s.c], .int .i64 0]) ∧ OLn w' 0 (withJ L (L.js.set k (survJ flo fhi j))) G ∧ Below w.heap.size w w' := by
  have b0 := (((Below.refl w.heap.size w).alloc (Nat.le_refl _) (.cells #[.string L.name, .slice H.j.A L.js.length H.j.c, .slice H.b.A L.bs.length H.b.c, .slice H.s.A L.ss.length H.s.c] 26)).alloc (by simp) (.cells #[.int .i64 flo, .int .i64 fhi] 54)).alloc (by simp; omega) (.cells #[.string ⟨#[]⟩, .slice none 0 0, .slice none 0 0, .slice none 0 0] 26)
  have X0 := Lib.hid (((Bk.new w 26 #[.string L.name, .slice H.j.A L.js.length H.j.c, .slice H.b.A L.bs.length H.b.c, .slice H.s.A L.ss.length H.s.c]).alloc (.cells #[.int .i64 flo, .int .i64 fhi] 54)).alloc (.cells #[.string ⟨#[]⟩, .slice none 0 0, .slice none 0 0, .slice none 0 0] 26))
  have F0 := Lib.hid ((Bk.new1 w (.cells #[.string L.name, .slice H.j.A L.js.length H.j.c, .slice H.b.A L.bs.length H.b.c, .slice H.s.A L.ss.length H.s.c] 26) 54 #[.int .i64 flo, .int .i64 fhi]).alloc (.cells #[.string ⟨#[]⟩, .slice none 0 0, .slice none 0 0, .slice none 0 0] 26))
  have R0 := Lib.hid (Bk.new2 w (.cells #[.string L.name, .slice H.j.A L.js.length H.j.c, .slice H.b.A L.bs.length H.b.c, .slice H.s.A L.ss.length H.s.c] 26) (.cells #[.int .i64 flo, .int .i64 fhi] 54) 26 #[.string ⟨#[]⟩, .slice none 0 0, .slice none 0 0, .slice none 0 0])
  have B0 := Lib.hid b0
  have A0 := Lib.hid (hA.below b0)
  subst hjn
  obtain ⟨lo, hlo⟩ : ∃ m, max flo (j.x + j.lo) = m := ⟨_, rfl⟩
  obtain ⟨hi, hhi⟩ : ∃ m, min fhi (j.x + j.hi) = m := ⟨_, rfl⟩
  obtain ⟨j0, j1, j2, j3, j4, j5, j6⟩ := joint_in (hr.j j (List.mem_of_getElem? hk))
  have t1 := IntWalk.i64_in (j.x + j.lo) (by omega)
  have t2 := IntWalk.i64_in (j.x + j.hi) (by omega)
  have V1 := Lib.hid (w64_in (j.x + j.lo) (by omega))
  have V2 := Lib.hid (w64_in (j.x + j.hi) (by omega))
  have g1 : ¬ fhi < flo := by omega
  have HLO := Lib.hid hlo
  have HHI := Lib.hid hhi
  have HJ := Lib.hid hk
  have HL := Lib.hid hL
  have HH := Lib.hid hH
  have hklt : k < L.js.length := (List.getElem?_eq_some_iff.1 hk).1
  have hlt' : (k : Int) < (L.js.length : Int) := by omega
  have g2 : ¬ hi < lo := by rw [hlo, hhi] at hc; omega
  have t3 := IntWalk.i64_in (lo - j.x) (by rw [hlo, hhi] at hc; omega)
  have t4 := IntWalk.i64_in (hi - j.x) (by rw [hlo, hhi] at hc; omega)
  clear b0 hA hr hL hH hlo hhi hk hc j0 j1 j2 j3 j4 j5 j6
  go_enter Try.func70, Try.ntmps70
  obtain ⟨x0, x1, x2, x3⟩ := X0.out.four
  obtain ⟨p0, p1, _, _⟩ := F0.out.two
  go_wp2_with fail
  refine (Copy_own L H HL.out HH.out _ (A0.out.more B0.out.size)).mono ?_
  rintro e w1 ⟨G, rfl, ho1, hb1⟩
  have X1 := Lib.hid (X0.out.call hb1)
  have R1 := Lib.hid (R0.out.call hb1)
  have F1 := Lib.hid (F0.out.call hb1)
  have B1 := Lib.hid (Below.step B0.out hb1)
  have O1 : Hid (OLn w1 (w.heap.size + 1 + 1 + 1) L G) := Lib.hid (by have h := ho1; simp at h; exact h)
  clear hb1 ho1 x0 x1 x2 x3 p0 p1 X0 R0 F0 B0 A0
  obtain ⟨x0, x1, x2, x3⟩ := X1.out.four
  obtain ⟨f0, f1, f2, f3⟩ : _ ∧ _ ∧ _ ∧ _ := ⟨X1.out.frozen 0, X1.out.frozen 1, X1.out.frozen 2, X1.out.frozen 3⟩
  have W2 : Hid (WF w ((((w1.setCell ⟨w.heap.size, 0, none⟩ (.string L.name)).setCell ⟨w.heap.size, 1, none⟩ (.slice G.j.A L.js.length G.j.c)).setCell ⟨w.heap.size, 2, none⟩ (.slice G.b.A L.bs.length G.b.c)).setCell ⟨w.heap.size, 3, none⟩ (.slice G.s.A L.ss.length G.s.c)) L L.js G w.heap.size (w.heap.size + 1 + 1) (w.heap.size + 1 + 1 + 1)) := Lib.hid
    ⟨(((X1.out.put 0 _).put 1 _).put 2 _).put 3 _, (((R1.out.far (by simp; omega) _).far (by simp; omega) _).far (by simp; omega) _).far (by simp; omega) _,
      (((O1.out.far (by show w.heap.size < _; omega) _).far (by show w.heap.size < _; omega) _).far (by show w.heap.size < _; omega) _).far (by show w.heap.size < _; omega) _,
      (((B1.out.setCell (Nat.le_refl _) _).setCell (Nat.le_refl _) _).setCell (Nat.le_refl _) _).setCell (Nat.le_refl _) _, rfl, by omega, by omega⟩
  have F2 : Hid (Bk ((((w1.setCell ⟨w.heap.size, 0, none⟩ (.string L.name)).setCell ⟨w.heap.size, 1, none⟩ (.slice G.j.A L.js.length G.j.c)).setCell ⟨w.heap.size, 2, none⟩ (.slice G.b.A L.bs.length G.b.c)).setCell ⟨w.heap.size, 3, none⟩ (.slice G.s.A L.ss.length G.s.c)) (w.heap.size + 1) 54 #[.int .i64 flo, .int .i64 fhi]) := Lib.hid
    ((((F1.out.far (by simp) _).far (by simp) _).far (by simp) _).far (by simp) _)
  obtain ⟨w2, hw2⟩ : ∃ W, ((((w1.setCell ⟨w.heap.size, 0, none⟩ (.string L.name)).setCell ⟨w.heap.size, 1, none⟩ (.slice G.j.A L.js.length G.j.c)).setCell ⟨w.heap.size, 2, none⟩ (.slice G.b.A L.bs.length G.b.c)).setCell ⟨w.heap.size, 3, none⟩ (.slice G.s.A L.ss.length G.s.c)) = W := ⟨_, rfl⟩
  rw [hw2] at W2 F2
  obtain ⟨z0, z1, z2, z3⟩ := W2.out.box.four
  go_upto_region 4 with fail
  (try simp only [hw2])
  clear hw2 x0 x1 x2 x3 f0 f1 f2 f3 X1 R1 F1 B1 O1
  obtain ⟨g, hg, hgB, hgl⟩ := W2.out.own.row (by show 0 < L.js.length; omega)
  obtain ⟨a2, ha2, hab, y0, y1, y2, y3⟩ := W2.out.own.at_.j.joint HJ.out
  have hag : a2 = ⟨g, 0, none⟩ := by rw [hg] at ha2; injection ha2 with ha2; exact ha2.symm
  obtain ⟨⟨Aj2, cj2⟩, Gb, Gs, each2⟩ := G
  simp only at ha2 hg
  subst ha2
  have HAG := Lib.hid hag
  have HG := Lib.hid hg
  have HAD : Hid (a2.add (k * 4) = ⟨g, k * 4, none⟩) := Lib.hid (by rw [HAG.out]; exact add_zero g (k * 4))
  have FZ : Hid (∀ (W : World) (B n c : Nat) (xs : List Value), W.ownsRow B 56 4 (.slice (some a2) n c) n xs → ∀ i, W.frozen? ⟨g, i, none⟩ = false) := Lib.hid (fun W B n c xs h i => by
    rw [HAG.out] at h
    exact h.frozenAt i)
  clear hag hg
  obtain ⟨p0, p1, _, _⟩ := F2.out.two
  go_upto_region 5 with fail
  go_cut [9, 10] from 23 to 48 (fun s9 s10 wx => s9 = .int .i64 lo ∧ s10 = .int .i64 hi ∧ WF w wx L L.js ⟨⟨some a2, cj2⟩, Gb, Gs, each2⟩ w.heap.size (w.heap.size + 1 + 1) (w.heap.size + 1 + 1 + 1))
  case first =>
    (first | go_region | fail "region5")
    all_goals
      go_wp2_with fail
      all_goals
        go_meet
        exact ⟨congrArg (Value.int .i64) (by have := HLO.out; omega), congrArg (Value.int .i64) (by have := HHI.out; omega), by first | exact W2.out | exact W2.out.drew⟩
  case rest =>
  obtain ⟨rfl, rfl, hW3⟩ := hcut
  have W3 := Lib.hid hW3
  clear hW3 W2 F2 z0 z1 z2 z3 y0 y1 y2 y3 p0 p1
  obtain ⟨a2', ha2', _, y0, y1, y2, y3⟩ := W3.out.own.at_.j.joint HJ.out
  simp only at ha2'
  injection ha2' with ha2'
  subst ha2'
  obtain ⟨fz2, fz3⟩ : wc.frozen? ⟨(a2.add (k * 4)).block, (a2.add (k * 4)).off + 2, none⟩ = false ∧ wc.frozen? ⟨(a2.add (k * 4)).block, (a2.add (k * 4)).off + 3, none⟩ = false := by
    rw [HAD.out]
    exact ⟨FZ.out _ _ _ _ _ W3.out.own.j _, FZ.out _ _ _ _ _ W3.out.own.j _⟩
  have S8 : Hid (WF w ((wc.setCell ⟨(a2.add (k * 4)).block, (a2.add (k * 4)).off + 2, none⟩ (.int .i64 (lo - j.x))).setCell ⟨(a2.add (k * 4)).block, (a2.add (k * 4)).off + 2 + 1, none⟩ (.int .i64 (hi - j.x))) L (L.js.set k (survJ flo fhi j)) ⟨⟨some a2, cj2⟩, Gb, Gs, each2⟩ w.heap.size (w.heap.size + 1 + 1) (w.heap.size + 1 + 1 + 1)) := Lib.hid (by
    have h := WF.setG W3.out HG.out HJ.out (lo - j.x) (hi - j.x)
    unfold survJ
    rw [HLO.out, HHI.out]
    rw [HAD.out]
    exact h)
  go_upto_region 8 with fail
  go_cut [7] from 53 to 84 (fun s7 wx => s7 = .int .i64 0 ∧ WF w wx L (L.js.set k (survJ flo fhi j)) ⟨⟨some a2, cj2⟩, Gb, Gs, each2⟩ w.heap.size (w.heap.size + 1 + 1) (w.heap.size + 1 + 1 + 1))
  case first =>
    (first | go_region | fail "region8")
    all_goals
      go_wp2_with fail
      all_goals
        go_meet
        exact ⟨rfl, by first | exact S8.out | exact S8.out.drew⟩
  case rest =>
  obtain ⟨rfl, hW9⟩ := hcut
  have S9 := Lib.hid hW9
  clear hW9 S8 W3 y0 y1 y2 y3 fz2 fz3
  obtain ⟨z4, z5, z6, z7⟩ := S9.out.box.four
  obtain ⟨r0, r1, r2, r3⟩ := S9.out.res.four
  obtain ⟨f0, f1, f2, f3⟩ : _ ∧ _ ∧ _ ∧ _ := ⟨S9.out.res.frozen 0, S9.out.res.frozen 1, S9.out.res.frozen 2, S9.out.res.frozen 3⟩
  go_wp2_with fail
  refine bodyPost_ret (v := .tuple #[.agg #[.string L.name, .slice (some a2) L.js.length cj2, .slice Gb.A L.bs.length Gb.c, .slice Gs.A L.ss.length Gs.c], .int .i64 0]) (by simp [results, Try.results70, go_sem, r0, r1, r2, r3]) rfl ⟨⟨⟨some a2, cj2⟩, Gb, Gs, each2⟩, rfl, ?_, ?_⟩
  · have hrb := S9.out.rb
    have o2 := (((S9.out.own.far (p := ⟨w.heap.size + 1 + 1, 0, none⟩) hrb (.string L.name)).far (p := ⟨w.heap.size + 1 + 1, 1, none⟩) hrb (.slice (some a2) L.js.length cj2)).far (p := ⟨w.heap.size + 1 + 1, 2, none⟩) hrb (.slice Gb.A L.bs.length Gb.c)).far (p := ⟨w.heap.size + 1 + 1, 3, none⟩) hrb (.slice Gs.A L.ss.length Gs.c)
    exact o2.more (Nat.zero_le _)
  · exact (((S9.out.bl.setCell (by simp; omega) _).setCell (by simp; omega) _).setCell (by simp; omega) _).setCell (by simp; omega) _

end Go.Proofs.Ytmnlgeglmkdecaa
