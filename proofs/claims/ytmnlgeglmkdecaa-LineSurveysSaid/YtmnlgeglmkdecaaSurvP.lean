/-
  The walk of the program's Surveyed.
-/
import Derived.Test.YtmnlgeglmkdecaaWarm
namespace Go.Proofs.Ytmnlgeglmkdecaa
open Go.RowKit

/-- A joint that was found from one place to another. -/
def survJ (flo fhi : Int) (j : Lj) : Lj := { j with lo := max flo (j.x + j.lo) - j.x, hi := min fhi (j.x + j.hi) - j.x }

/-- What Surveyed's walk holds: the line's box, the found range's, the result's, the checked line's. -/
structure SV (w W : World) (L : Ll) (H : Hds) (flo fhi : Int) (g0 q : Nat) : Prop where
  x : Bk W w.heap.size 26 #[.string L.name, .slice H.j.A L.js.length H.j.c, .slice H.b.A L.bs.length H.b.c, .slice H.s.A L.ss.length H.s.c]
  f : Bk W (w.heap.size + 1) 54 #[.int .i64 flo, .int .i64 fhi]
  r : Bk W (w.heap.size + 1 + 1) 26 #[.string ⟨#[]⟩, .slice none 0 0, .slice none 0 0, .slice none 0 0]
  c : Bk W q 119 #[.string L.name, .slice H.j.A L.js.length H.j.c, .slice H.b.A L.bs.length H.b.c, .slice H.s.A L.ss.length H.s.c, .slice (some ⟨g0, 0, none⟩) L.js.length L.js.length]
  ln : LnAt W w.heap.size L H
  bl : Below w.heap.size w W
  qb : w.heap.size + 3 ≤ q
section
variable {w W W' : World} {L : Ll} {H : Hds} {flo fhi : Int} {g0 q : Nat}
theorem SV.from (hb : Below W.heap.size W W') (h : SV w W L H flo fhi g0 q) : SV w W' L H flo fhi g0 q := ⟨h.x.call hb, h.f.call hb, h.r.call hb, h.c.call hb, h.ln.below (hb.mono h.bl.size), Below.step h.bl hb, h.qb⟩
theorem SV.alloc (h : SV w W L H flo fhi g0 q) (o : Obj) : SV w (W.alloc o) L H flo fhi g0 q := h.from ((Below.refl _ W).alloc (Nat.le_refl _) o)
theorem SV.drew (h : SV w W L H flo fhi g0 q) : SV w W.drew L H flo fhi g0 q := h.from (Below.refl _ W).drew
theorem SV.set (h : SV w W L H flo fhi g0 q) {p : Addr} (hp : q + 1 ≤ p.block) (u : Value) : SV w (W.setCell p u) L H flo fhi g0 q :=
  have hq := h.qb
  ⟨h.x.far (by omega) u, h.f.far (by omega) u, h.r.far (by omega) u, h.c.far (by omega) u, h.ln.below ((Below.refl _ W).setCell (by omega) u), h.bl.setCell (by omega) u, h.qb⟩
end

set_option maxHeartbeats 4000000 in
set_option maxRecDepth 100000 in
theorem Surveyed_err {L : Ll} {m1 m2 er : Int} (hck : ckLine L = ((m1, m2), er)) (he : er ≠ 0) (H : Hds) (hL : L.ok) (jn flo fhi : Int) (w : World) (hA : LnAt w w.heap.size L H) :
    Calls Try.prog 66 #[(.agg #[.string L.name, .slice H.j.A L.js.length H.j.c, .slice H.b.A L.bs.length H.b.c, .slice H.s.A L.ss.length H.s.c]), .int .i64 jn, .agg #[.int .i64 flo, .int .i64 fhi]] w fun e w' => e = .returned (.tuple #[.agg #[.string ⟨#[]⟩, .slice none 0 0, .slice none 0 0, .slice none 0 0], .int .i64 er]) ∧ Below w.heap.size w w' := by
  have b0 := (((Below.refl w.heap.size w).alloc (Nat.le_refl _) (.cells #[.string L.name, .slice H.j.A L.js.length H.j.c, .slice H.b.A L.bs.length H.b.c, .slice H.s.A L.ss.length H.s.c] 26)).alloc (by simp) (.cells #[.int .i64 flo, .int .i64 fhi] 54)).alloc (by simp; omega) (.cells #[.string ⟨#[]⟩, .slice none 0 0, .slice none 0 0, .slice none 0 0] 26)
  have X0 := Lib.hid (((Bk.new w 26 #[.string L.name, .slice H.j.A L.js.length H.j.c, .slice H.b.A L.bs.length H.b.c, .slice H.s.A L.ss.length H.s.c]).alloc (.cells #[.int .i64 flo, .int .i64 fhi] 54)).alloc (.cells #[.string ⟨#[]⟩, .slice none 0 0, .slice none 0 0, .slice none 0 0] 26))
  have F0 := Lib.hid ((Bk.new1 w (.cells #[.string L.name, .slice H.j.A L.js.length H.j.c, .slice H.b.A L.bs.length H.b.c, .slice H.s.A L.ss.length H.s.c] 26) 54 #[.int .i64 flo, .int .i64 fhi]).alloc (.cells #[.string ⟨#[]⟩, .slice none 0 0, .slice none 0 0, .slice none 0 0] 26))
  have R0 := Lib.hid (Bk.new2 w (.cells #[.string L.name, .slice H.j.A L.js.length H.j.c, .slice H.b.A L.bs.length H.b.c, .slice H.s.A L.ss.length H.s.c] 26) (.cells #[.int .i64 flo, .int .i64 fhi] 54) 26 #[.string ⟨#[]⟩, .slice none 0 0, .slice none 0 0, .slice none 0 0])
  have B0 := Lib.hid b0
  have A0 := Lib.hid (hA.below b0)
  have HC := Lib.hid hck
  have HE := Lib.hid he
  have ge : (er != 0) = true := by simp [he]
  clear b0 hA hck he
  go_enter Try.func66, Try.ntmps66
  obtain ⟨x0, x1, x2, x3⟩ := X0.out.four
  go_wp2_with fail
  refine (check_bad HC.out HE.out H hL _ (A0.out.more B0.out.size)).mono ?_
  rintro e w1 ⟨rfl, hb1⟩
  have R1 := Lib.hid ((R0.out.call hb1).alloc (.cells #[.string ⟨#[]⟩, .slice none 0 0, .slice none 0 0, .slice none 0 0, .slice none 0 0] 119))
  have B1 := Lib.hid (Below.step B0.out hb1)
  clear hb1 x0 x1 x2 x3
  obtain ⟨r0, r1, r2, r3⟩ := R1.out.four
  obtain ⟨f0, f1, f2, f3⟩ : _ ∧ _ ∧ _ ∧ _ := ⟨R1.out.frozen 0, R1.out.frozen 1, R1.out.frozen 2, R1.out.frozen 3⟩
  go_wp2_with fail
  refine bodyPost_ret (v := .tuple #[.agg #[.string ⟨#[]⟩, .slice none 0 0, .slice none 0 0, .slice none 0 0], .int .i64 er]) (by simp [results, Try.results66, go_sem, r0, r1, r2, r3]) rfl ⟨rfl, ?_⟩
  exact (B1.out.alloc B1.out.size _).setCell (by simp; omega) _ |>.setCell (by simp; omega) _ |>.setCell (by simp; omega) _ |>.setCell (by simp; omega) _

set_option maxHeartbeats 4000000 in
set_option maxRecDepth 100000 in
theorem Surveyed_missing {L : Ll} (hr : Right L) (hck : ckLine L = ((0, 0), 0)) (H : Hds) (hL : L.ok) (jn flo fhi : Int) (hj : inB jn 0 (L.js.length - 1) = false) (w : World) (hA : LnAt w w.heap.size L H) :
    Calls Try.prog 66 #[(.agg #[.string L.name, .slice H.j.A L.js.length H.j.c, .slice H.b.A L.bs.length H.b.c, .slice H.s.A L.ss.length H.s.c]), .int .i64 jn, .agg #[.int .i64 flo, .int .i64 fhi]] w fun e w' => e = .returned (.tuple #[.agg #[.string ⟨#[]⟩, .slice none 0 0, .slice none 0 0, .slice none 0 0], .int .i64 6]) ∧ Below w.heap.size w w' := by
  have b0 := (((Below.refl w.heap.size w).alloc (Nat.le_refl _) (.cells #[.string L.name, .slice H.j.A L.js.length H.j.c, .slice H.b.A L.bs.length H.b.c, .slice H.s.A L.ss.length H.s.c] 26)).alloc (by simp) (.cells #[.int .i64 flo, .int .i64 fhi] 54)).alloc (by simp; omega) (.cells #[.string ⟨#[]⟩, .slice none 0 0, .slice none 0 0, .slice none 0 0] 26)
  have X0 := Lib.hid (((Bk.new w 26 #[.string L.name, .slice H.j.A L.js.length H.j.c, .slice H.b.A L.bs.length H.b.c, .slice H.s.A L.ss.length H.s.c]).alloc (.cells #[.int .i64 flo, .int .i64 fhi] 54)).alloc (.cells #[.string ⟨#[]⟩, .slice none 0 0, .slice none 0 0, .slice none 0 0] 26))
  have F0 := Lib.hid ((Bk.new1 w (.cells #[.string L.name, .slice H.j.A L.js.length H.j.c, .slice H.b.A L.bs.length H.b.c, .slice H.s.A L.ss.length H.s.c] 26) 54 #[.int .i64 flo, .int .i64 fhi]).alloc (.cells #[.string ⟨#[]⟩, .slice none 0 0, .slice none 0 0, .slice none 0 0] 26))
  have R0 := Lib.hid (Bk.new2 w (.cells #[.string L.name, .slice H.j.A L.js.length H.j.c, .slice H.b.A L.bs.length H.b.c, .slice H.s.A L.ss.length H.s.c] 26) (.cells #[.int .i64 flo, .int .i64 fhi] 54) 26 #[.string ⟨#[]⟩, .slice none 0 0, .slice none 0 0, .slice none 0 0])
  have B0 := Lib.hid b0
  have A0 := Lib.hid (hA.below b0)
  have HC := Lib.hid hck
  have HR := Lib.hid hr
  have HL := Lib.hid hL
  have hnj := hL.nj
  have HJN := Lib.hid hj
  clear b0 hA hck hr hL hj
  go_enter Try.func66, Try.ntmps66
  obtain ⟨x0, x1, x2, x3⟩ := X0.out.four
  go_wp2_with fail
  refine (check_good HR.out HC.out H HL.out _ (A0.out.more B0.out.size)).mono ?_
  rintro e w1 ⟨g0, rfl, hb1, _, _⟩
  have hrl := (R0.out.call hb1).lt
  have S1 : Hid (SV w (w1.alloc (.cells #[.string L.name, .slice H.j.A L.js.length H.j.c, .slice H.b.A L.bs.length H.b.c, .slice H.s.A L.ss.length H.s.c, .slice (some ⟨g0, 0, none⟩) L.js.length L.js.length] 119)) L H flo fhi g0 w1.heap.size) := Lib.hid
    ⟨(X0.out.call hb1).alloc _, (F0.out.call hb1).alloc _, (R0.out.call hb1).alloc _, Bk.new w1 _ _, (A0.out.below (hb1.mono B0.out.size)).below ((Below.refl _ w1).alloc (Below.step B0.out hb1).size _), (Below.step B0.out hb1).alloc (Below.step B0.out hb1).size _, hrl⟩
  clear hb1 hrl x0 x1 x2 x3 X0 F0 R0 B0 A0
  obtain ⟨c0, c1, c2, c3, c4⟩ := S1.out.c.five
  go_wp2_with fail
  refine (hasJoint_any hnj H ⟨g0, 0, none⟩ L.js.length jn _).mono ?_
  rintro e w2 ⟨rfl, hb2⟩
  rw [HJN.out]
  have S2 := Lib.hid (SV.from hb2 S1.out)
  clear hb2 c0 c1 c2 c3 c4
  obtain ⟨q, hq⟩ : ∃ q, w1.heap.size = q := ⟨_, rfl⟩
  simp only [hq] at S2 ⊢
  clear hq S1
  obtain ⟨r0, r1, r2, r3⟩ := S2.out.r.four
  obtain ⟨f0, f1, f2, f3⟩ : _ ∧ _ ∧ _ ∧ _ := ⟨S2.out.r.frozen 0, S2.out.r.frozen 1, S2.out.r.frozen 2, S2.out.r.frozen 3⟩
  go_wp2_with fail
  refine bodyPost_ret (v := .tuple #[.agg #[.string ⟨#[]⟩, .slice none 0 0, .slice none 0 0, .slice none 0 0], .int .i64 6]) (by simp [results, Try.results66, go_sem, r0, r1, r2, r3]) rfl ⟨rfl, ?_⟩
  exact S2.out.bl.setCell (by simp; omega) _ |>.setCell (by simp; omega) _ |>.setCell (by simp; omega) _ |>.setCell (by simp; omega) _

set_option maxHeartbeats 4000000 in
set_option maxRecDepth 100000 in
theorem Surveyed_order {L : Ll} (hr : Right L) (hck : ckLine L = ((0, 0), 0)) (H : Hds) (hL : L.ok) (jn flo fhi : Int) (hj : inB jn 0 (L.js.length - 1) = true) (ho : fhi < flo) (w : World) (hA : LnAt w w.heap.size L H) :
    Calls Try.prog 66 #[(.agg #[.string L.name, .slice H.j.A L.js.length H.j.c, .slice H.b.A L.bs.length H.b.c, .slice H.s.A L.ss.length H.s.c]), .int .i64 jn, .agg #[.int .i64 flo, .int .i64 fhi]] w fun e w' => e = .returned (.tuple #[.agg #[.string ⟨#[]⟩, .slice none 0 0, .slice none 0 0, .slice none 0 0], .int .i64 9]) ∧ Below w.heap.size w w' := by
  have b0 := (((Below.refl w.heap.size w).alloc (Nat.le_refl _) (.cells #[.string L.name, .slice H.j.A L.js.length H.j.c, .slice H.b.A L.bs.length H.b.c, .slice H.s.A L.ss.length H.s.c] 26)).alloc (by simp) (.cells #[.int .i64 flo, .int .i64 fhi] 54)).alloc (by simp; omega) (.cells #[.string ⟨#[]⟩, .slice none 0 0, .slice none 0 0, .slice none 0 0] 26)
  have X0 := Lib.hid (((Bk.new w 26 #[.string L.name, .slice H.j.A L.js.length H.j.c, .slice H.b.A L.bs.length H.b.c, .slice H.s.A L.ss.length H.s.c]).alloc (.cells #[.int .i64 flo, .int .i64 fhi] 54)).alloc (.cells #[.string ⟨#[]⟩, .slice none 0 0, .slice none 0 0, .slice none 0 0] 26))
  have F0 := Lib.hid ((Bk.new1 w (.cells #[.string L.name, .slice H.j.A L.js.length H.j.c, .slice H.b.A L.bs.length H.b.c, .slice H.s.A L.ss.length H.s.c] 26) 54 #[.int .i64 flo, .int .i64 fhi]).alloc (.cells #[.string ⟨#[]⟩, .slice none 0 0, .slice none 0 0, .slice none 0 0] 26))
  have R0 := Lib.hid (Bk.new2 w (.cells #[.string L.name, .slice H.j.A L.js.length H.j.c, .slice H.b.A L.bs.length H.b.c, .slice H.s.A L.ss.length H.s.c] 26) (.cells #[.int .i64 flo, .int .i64 fhi] 54) 26 #[.string ⟨#[]⟩, .slice none 0 0, .slice none 0 0, .slice none 0 0])
  have B0 := Lib.hid b0
  have A0 := Lib.hid (hA.below b0)
  have HC := Lib.hid hck
  have HR := Lib.hid hr
  have HL := Lib.hid hL
  have hnj := hL.nj
  have HJN := Lib.hid hj
  clear b0 hA hck hr hL hj
  go_enter Try.func66, Try.ntmps66
  obtain ⟨x0, x1, x2, x3⟩ := X0.out.four
  go_wp2_with fail
  refine (check_good HR.out HC.out H HL.out _ (A0.out.more B0.out.size)).mono ?_
  rintro e w1 ⟨g0, rfl, hb1, _, _⟩
  have hrl := (R0.out.call hb1).lt
  have S1 : Hid (SV w (w1.alloc (.cells #[.string L.name, .slice H.j.A L.js.length H.j.c, .slice H.b.A L.bs.length H.b.c, .slice H.s.A L.ss.length H.s.c, .slice (some ⟨g0, 0, none⟩) L.js.length L.js.length] 119)) L H flo fhi g0 w1.heap.size) := Lib.hid
    ⟨(X0.out.call hb1).alloc _, (F0.out.call hb1).alloc _, (R0.out.call hb1).alloc _, Bk.new w1 _ _, (A0.out.below (hb1.mono B0.out.size)).below ((Below.refl _ w1).alloc (Below.step B0.out hb1).size _), (Below.step B0.out hb1).alloc (Below.step B0.out hb1).size _, hrl⟩
  clear hb1 hrl x0 x1 x2 x3 X0 F0 R0 B0 A0
  obtain ⟨c0, c1, c2, c3, c4⟩ := S1.out.c.five
  go_wp2_with fail
  refine (hasJoint_any hnj H ⟨g0, 0, none⟩ L.js.length jn _).mono ?_
  rintro e w2 ⟨rfl, hb2⟩
  rw [HJN.out]
  have S2 := Lib.hid (SV.from hb2 S1.out)
  clear hb2 c0 c1 c2 c3 c4
  obtain ⟨q, hq⟩ : ∃ q, w1.heap.size = q := ⟨_, rfl⟩
  simp only [hq] at S2 ⊢
  clear hq S1
  obtain ⟨p0, p1, _, _⟩ := S2.out.f.two
  obtain ⟨r0, r1, r2, r3⟩ := S2.out.r.four
  obtain ⟨f0, f1, f2, f3⟩ : _ ∧ _ ∧ _ ∧ _ := ⟨S2.out.r.frozen 0, S2.out.r.frozen 1, S2.out.r.frozen 2, S2.out.r.frozen 3⟩
  go_wp2_with fail
  refine bodyPost_ret (v := .tuple #[.agg #[.string ⟨#[]⟩, .slice none 0 0, .slice none 0 0, .slice none 0 0], .int .i64 9]) (by simp [results, Try.results66, go_sem, r0, r1, r2, r3]) rfl ⟨rfl, ?_⟩
  exact S2.out.bl.setCell (by simp; omega) _ |>.setCell (by simp; omega) _ |>.setCell (by simp; omega) _ |>.setCell (by simp; omega) _

set_option maxHeartbeats 4000000 in
set_option maxRecDepth 100000 in
theorem Surveyed_clash {L : Ll} (hr : Right L) (hck : ckLine L = ((0, 0), 0)) (H : Hds) (hL : L.ok) (jn flo fhi : Int) {k : Nat} (hjn : jn = (k : Int)) {j : Lj} (hk : L.js[k]? = some j) (hj : inB jn 0 (L.js.length - 1) = true) (ho : flo ≤ fhi) (hc : min fhi (j.x + j.hi) < max flo (j.x + j.lo)) (w : World) (hA : LnAt w w.heap.size L H) :
    Calls Try.prog 66 #[(.agg #[.string L.name, .slice H.j.A L.js.length H.j.c, .slice H.b.A L.bs.length H.b.c, .slice H.s.A L.ss.length H.s.c]), .int .i64 jn, .agg #[.int .i64 flo, .int .i64 fhi]] w fun e w' => e = .returned (.tuple #[.agg #[.string ⟨#[]⟩, .slice none 0 0, .slice none 0 0, .slice none 0 0], .int .i64 13]) ∧ Below w.heap.size w w' := by
  have b0 := (((Below.refl w.heap.size w).alloc (Nat.le_refl _) (.cells #[.string L.name, .slice H.j.A L.js.length H.j.c, .slice H.b.A L.bs.length H.b.c, .slice H.s.A L.ss.length H.s.c] 26)).alloc (by simp) (.cells #[.int .i64 flo, .int .i64 fhi] 54)).alloc (by simp; omega) (.cells #[.string ⟨#[]⟩, .slice none 0 0, .slice none 0 0, .slice none 0 0] 26)
  have X0 := Lib.hid (((Bk.new w 26 #[.string L.name, .slice H.j.A L.js.length H.j.c, .slice H.b.A L.bs.length H.b.c, .slice H.s.A L.ss.length H.s.c]).alloc (.cells #[.int .i64 flo, .int .i64 fhi] 54)).alloc (.cells #[.string ⟨#[]⟩, .slice none 0 0, .slice none 0 0, .slice none 0 0] 26))
  have F0 := Lib.hid ((Bk.new1 w (.cells #[.string L.name, .slice H.j.A L.js.length H.j.c, .slice H.b.A L.bs.length H.b.c, .slice H.s.A L.ss.length H.s.c] 26) 54 #[.int .i64 flo, .int .i64 fhi]).alloc (.cells #[.string ⟨#[]⟩, .slice none 0 0, .slice none 0 0, .slice none 0 0] 26))
  have R0 := Lib.hid (Bk.new2 w (.cells #[.string L.name, .slice H.j.A L.js.length H.j.c, .slice H.b.A L.bs.length H.b.c, .slice H.s.A L.ss.length H.s.c] 26) (.cells #[.int .i64 flo, .int .i64 fhi] 54) 26 #[.string ⟨#[]⟩, .slice none 0 0, .slice none 0 0, .slice none 0 0])
  have B0 := Lib.hid b0
  have A0 := Lib.hid (hA.below b0)
  subst hjn
  obtain ⟨lo, hlo⟩ : ∃ m, max flo (j.x + j.lo) = m := ⟨_, rfl⟩
  obtain ⟨hi, hhi⟩ : ∃ m, min fhi (j.x + j.hi) = m := ⟨_, rfl⟩
  obtain ⟨j0, j1, j2, j3, j4, j5, j6⟩ := joint_in (hr.j j (List.mem_of_getElem? hk))
  have t1 := IntWalk.i64_in (j.x + j.lo) (by omega)
  have t2 := IntWalk.i64_in (j.x + j.hi) (by omega)
  have g1 : ¬ fhi < flo := by omega
  have HLO := Lib.hid hlo
  have HHI := Lib.hid hhi
  have HJ := Lib.hid hk
  have HDE : Hid (decide (lo ≤ hi) = false) := Lib.hid (by rw [hlo, hhi] at hc; simp; omega)
  clear hlo hhi hk hc j0 j1 j2 j3 j4 j5 j6
  have HC := Lib.hid hck
  have HR := Lib.hid hr
  have HL := Lib.hid hL
  have hnj := hL.nj
  have HJN := Lib.hid hj
  clear b0 hA hck hr hL hj
  go_enter Try.func66, Try.ntmps66
  obtain ⟨x0, x1, x2, x3⟩ := X0.out.four
  go_wp2_with fail
  refine (check_good HR.out HC.out H HL.out _ (A0.out.more B0.out.size)).mono ?_
  rintro e w1 ⟨g0, rfl, hb1, _, _⟩
  have hrl := (R0.out.call hb1).lt
  have S1 : Hid (SV w (w1.alloc (.cells #[.string L.name, .slice H.j.A L.js.length H.j.c, .slice H.b.A L.bs.length H.b.c, .slice H.s.A L.ss.length H.s.c, .slice (some ⟨g0, 0, none⟩) L.js.length L.js.length] 119)) L H flo fhi g0 w1.heap.size) := Lib.hid
    ⟨(X0.out.call hb1).alloc _, (F0.out.call hb1).alloc _, (R0.out.call hb1).alloc _, Bk.new w1 _ _, (A0.out.below (hb1.mono B0.out.size)).below ((Below.refl _ w1).alloc (Below.step B0.out hb1).size _), (Below.step B0.out hb1).alloc (Below.step B0.out hb1).size _, hrl⟩
  clear hb1 hrl x0 x1 x2 x3 X0 F0 R0 B0 A0
  obtain ⟨c0, c1, c2, c3, c4⟩ := S1.out.c.five
  go_wp2_with fail
  refine (hasJoint_any hnj H ⟨g0, 0, none⟩ L.js.length (k : Int) _).mono ?_
  rintro e w2 ⟨rfl, hb2⟩
  rw [HJN.out]
  have S2 := Lib.hid (SV.from hb2 S1.out)
  clear hb2 c0 c1 c2 c3 c4
  obtain ⟨q, hq⟩ : ∃ q, w1.heap.size = q := ⟨_, rfl⟩
  simp only [hq] at S2 ⊢
  clear hq S1
  obtain ⟨a, ha, _, _⟩ := S2.out.ln.j.joint HJ.out
  obtain ⟨⟨A, cj⟩, Hb, Hs, each⟩ := H
  simp only at ha
  subst ha
  have hlt : k < L.js.length := (List.getElem?_eq_some_iff.1 HJ.out).1
  have hlt' : (k : Int) < (L.js.length : Int) := by omega
  have HALL : Hid (∀ W : World, SV w W L ⟨⟨some a, cj⟩, Hb, Hs, each⟩ flo fhi g0 q → SV w W L ⟨⟨some a, cj⟩, Hb, Hs, each⟩ flo fhi g0 q ∧ W.cell? ⟨q, 1, none⟩ = some (.slice (some a) L.js.length cj) ∧ W.cell? (a.add (k * 4)) = some (.int .i64 j.x) ∧ W.cell? ⟨(a.add (k * 4)).block, (a.add (k * 4)).off + 2, none⟩ = some (.int .i64 j.lo) ∧ W.cell? ⟨(a.add (k * 4)).block, (a.add (k * 4)).off + 3, none⟩ = some (.int .i64 j.hi)) := Lib.hid (fun W h => by
    obtain ⟨b, hb, _, i0, i1, i2, i3⟩ := h.ln.j.joint HJ.out
    simp only at hb
    injection hb with hb
    subst hb
    exact ⟨h, h.c.cell 1, i0, i2, i3⟩)
  obtain ⟨_, c1, y0, y2, y3⟩ := HALL.out _ S2.out
  have hqb := S2.out.qb
  have hql := S2.out.c.lt
  obtain ⟨p0, p1, _, _⟩ := S2.out.f.two
  go_upto_region 8 with fail
  go_cut [10, 11] from 35 (fun s10 s11 wx => ∃ d : Nat, s10 = .int .i64 j.x ∧ s11 = .pointer (some ⟨d, 0, none⟩) ∧ SV w wx L ⟨⟨some a, cj⟩, Hb, Hs, each⟩ flo fhi g0 q ∧ wx.cell? ⟨d, 0, none⟩ = some (.int .i64 j.lo) ∧ wx.cell? ⟨d, 1, none⟩ = some (.int .i64 j.hi))
  case first =>
    go_region_held3 (fun W => SV w W L ⟨⟨some a, cj⟩, Hb, Hs, each⟩ flo fhi g0 q ∧ W.cell? ⟨q, 1, none⟩ = some (.slice (some a) L.js.length cj) ∧ W.cell? (a.add (k * 4)) = some (.int .i64 j.x) ∧ W.cell? ⟨(a.add (k * 4)).block, (a.add (k * 4)).off + 2, none⟩ = some (.int .i64 j.lo) ∧ W.cell? ⟨(a.add (k * 4)).block, (a.add (k * 4)).off + 3, none⟩ = some (.int .i64 j.hi))
      ((go_split_ands; refine HALL.out _ ?_; (first | assumption | exact S2.out.drew | (repeat (first | assumption | exact S2.out | refine SV.alloc ?_ _ | refine SV.drew ?_ | (refine SV.set ?_ (by first | omega | (simp; done) | (simp; omega)) _)))); done))
      (fail "arm")
    all_goals
      go_split_ands
      go_wp2_with fail
      go_meet
      refine ⟨_, rfl, rfl, by assumption, ?_, ?_⟩
    all_goals (first | (go_simp; done) | (simp [*]; done) | skip)
  case rest =>
  obtain ⟨d, rfl, rfl, hS3, d0, d1⟩ := hcut
  have S3 := Lib.hid hS3
  clear hS3 S2 c1 y0 y2 y3 p0 p1
  obtain ⟨p0, p1, _, _⟩ := S3.out.f.two
  go_wp2_with fail
  refine (common_any flo fhi (j.x + j.lo) (j.x + j.hi) _).mono ?_
  rintro e w5 ⟨rfl, hb5⟩
  rw [HLO.out, HHI.out, HDE.out]
  have S5 := Lib.hid ((SV.from hb5 S3.out).alloc (.cells #[.int .i64 lo, .int .i64 hi] 54))
  have D5 := Lib.hid (Bk.new w5 54 #[.int .i64 lo, .int .i64 hi])
  clear hb5 S3 d0 d1 p0 p1
  obtain ⟨r0, r1, r2, r3⟩ := S5.out.r.four
  obtain ⟨f0, f1, f2, f3⟩ : _ ∧ _ ∧ _ ∧ _ := ⟨S5.out.r.frozen 0, S5.out.r.frozen 1, S5.out.r.frozen 2, S5.out.r.frozen 3⟩
  go_wp2_with fail
  refine bodyPost_ret (v := .tuple #[.agg #[.string ⟨#[]⟩, .slice none 0 0, .slice none 0 0, .slice none 0 0], .int .i64 13]) (by simp [results, Try.results66, go_sem, r0, r1, r2, r3]) rfl ⟨rfl, ?_⟩
  exact S5.out.bl.setCell (by have := S5.out.qb; simp; omega) _ |>.setCell (by have := S5.out.qb; simp; omega) _ |>.setCell (by have := S5.out.qb; simp; omega) _ |>.setCell (by have := S5.out.qb; simp; omega) _

set_option maxHeartbeats 8000000 in
set_option maxRecDepth 100000 in
theorem Surveyed_good {L : Ll} (hr : Right L) (hck : ckLine L = ((0, 0), 0)) (H : Hds) (hL : L.ok) (hH : HdsOk H) (jn flo fhi : Int) {k : Nat} (hjn : jn = (k : Int)) {j : Lj} (hk : L.js[k]? = some j) (hj : inB jn 0 (L.js.length - 1) = true) (ho : flo ≤ fhi) (hc : max flo (j.x + j.lo) ≤ min fhi (j.x + j.hi)) (w : World) (hA : LnAt w w.heap.size L H) :
    Calls Try.prog 66 #[(.agg #[.string L.name, .slice H.j.A L.js.length H.j.c, .slice H.b.A L.bs.length H.b.c, .slice H.s.A L.ss.length H.s.c]), .int .i64 jn, .agg #[.int .i64 flo, .int .i64 fhi]] w fun e w' => ∃ G : Hds, e = .returned (.tuple #[.agg #[.string L.name, .slice G.j.A L.js.length G.j.c, .slice G.b.A L.bs.length G.b.c, .slice G.s.A L.ss.length G.s.c], .int .i64 0]) ∧ OLn w' 0 (withJ L (L.js.set k (survJ flo fhi j))) G ∧ Below w.heap.size w w' := by
  have b0 := (((Below.refl w.heap.size w).alloc (Nat.le_refl _) (.cells #[.string L.name, .slice H.j.A L.js.length H.j.c, .slice H.b.A L.bs.length H.b.c, .slice H.s.A L.ss.length H.s.c] 26)).alloc (by simp) (.cells #[.int .i64 flo, .int .i64 fhi] 54)).alloc (by simp; omega) (.cells #[.string ⟨#[]⟩, .slice none 0 0, .slice none 0 0, .slice none 0 0] 26)
  have X0 := Lib.hid (((Bk.new w 26 #[.string L.name, .slice H.j.A L.js.length H.j.c, .slice H.b.A L.bs.length H.b.c, .slice H.s.A L.ss.length H.s.c]).alloc (.cells #[.int .i64 flo, .int .i64 fhi] 54)).alloc (.cells #[.string ⟨#[]⟩, .slice none 0 0, .slice none 0 0, .slice none 0 0] 26))
  have F0 := Lib.hid ((Bk.new1 w (.cells #[.string L.name, .slice H.j.A L.js.length H.j.c, .slice H.b.A L.bs.length H.b.c, .slice H.s.A L.ss.length H.s.c] 26) 54 #[.int .i64 flo, .int .i64 fhi]).alloc (.cells #[.string ⟨#[]⟩, .slice none 0 0, .slice none 0 0, .slice none 0 0] 26))
  have R0 := Lib.hid (Bk.new2 w (.cells #[.string L.name, .slice H.j.A L.js.length H.j.c, .slice H.b.A L.bs.length H.b.c, .slice H.s.A L.ss.length H.s.c] 26) (.cells #[.int .i64 flo, .int .i64 fhi] 54) 26 #[.string ⟨#[]⟩, .slice none 0 0, .slice none 0 0, .slice none 0 0])
  have B0 := Lib.hid b0
  have A0 := Lib.hid (hA.below b0)
  subst hjn
  obtain ⟨lo, hlo⟩ : ∃ m, max flo (j.x + j.lo) = m := ⟨_, rfl⟩
  obtain ⟨hi, hhi⟩ : ∃ m, min fhi (j.x + j.hi) = m := ⟨_, rfl⟩
  obtain ⟨j0, j1, j2, j3, j4, j5, j6⟩ := joint_in (hr.j j (List.mem_of_getElem? hk))
  have t1 := IntWalk.i64_in (j.x + j.lo) (by omega)
  have t2 := IntWalk.i64_in (j.x + j.hi) (by omega)
  have g1 : ¬ fhi < flo := by omega
  have HLO := Lib.hid hlo
  have HHI := Lib.hid hhi
  have HJ := Lib.hid hk
  have HDE : Hid (decide (lo ≤ hi) = true) := Lib.hid (by rw [hlo, hhi] at hc; simp; omega)
  have HH := Lib.hid hH
  have t3 := IntWalk.i64_in (lo - j.x) (by rw [hlo, hhi] at hc; omega)
  have t4 := IntWalk.i64_in (hi - j.x) (by rw [hlo, hhi] at hc; omega)
  clear hlo hhi hk hc j0 j1 j2 j3 j4 j5 j6 hH
  have HC := Lib.hid hck
  have HR := Lib.hid hr
  have HL := Lib.hid hL
  have hnj := hL.nj
  have HJN := Lib.hid hj
  clear b0 hA hck hr hL hj
  go_enter Try.func66, Try.ntmps66
  obtain ⟨x0, x1, x2, x3⟩ := X0.out.four
  go_wp2_with fail
  refine (check_good HR.out HC.out H HL.out _ (A0.out.more B0.out.size)).mono ?_
  rintro e w1 ⟨g0, rfl, hb1, _, _⟩
  have hrl := (R0.out.call hb1).lt
  have S1 : Hid (SV w (w1.alloc (.cells #[.string L.name, .slice H.j.A L.js.length H.j.c, .slice H.b.A L.bs.length H.b.c, .slice H.s.A L.ss.length H.s.c, .slice (some ⟨g0, 0, none⟩) L.js.length L.js.length] 119)) L H flo fhi g0 w1.heap.size) := Lib.hid
    ⟨(X0.out.call hb1).alloc _, (F0.out.call hb1).alloc _, (R0.out.call hb1).alloc _, Bk.new w1 _ _, (A0.out.below (hb1.mono B0.out.size)).below ((Below.refl _ w1).alloc (Below.step B0.out hb1).size _), (Below.step B0.out hb1).alloc (Below.step B0.out hb1).size _, hrl⟩
  clear hb1 hrl x0 x1 x2 x3 X0 F0 R0 B0 A0
  obtain ⟨c0, c1, c2, c3, c4⟩ := S1.out.c.five
  go_wp2_with fail
  refine (hasJoint_any hnj H ⟨g0, 0, none⟩ L.js.length (k : Int) _).mono ?_
  rintro e w2 ⟨rfl, hb2⟩
  rw [HJN.out]
  have S2 := Lib.hid (SV.from hb2 S1.out)
  clear hb2 c0 c1 c2 c3 c4
  obtain ⟨q, hq⟩ : ∃ q, w1.heap.size = q := ⟨_, rfl⟩
  simp only [hq] at S2 ⊢
  clear hq S1
  obtain ⟨a, ha, _, _⟩ := S2.out.ln.j.joint HJ.out
  obtain ⟨⟨A, cj⟩, Hb, Hs, each⟩ := H
  simp only at ha
  subst ha
  have hlt : k < L.js.length := (List.getElem?_eq_some_iff.1 HJ.out).1
  have hlt' : (k : Int) < (L.js.length : Int) := by omega
  have HALL : Hid (∀ W : World, SV w W L ⟨⟨some a, cj⟩, Hb, Hs, each⟩ flo fhi g0 q → SV w W L ⟨⟨some a, cj⟩, Hb, Hs, each⟩ flo fhi g0 q ∧ W.cell? ⟨q, 1, none⟩ = some (.slice (some a) L.js.length cj) ∧ W.cell? (a.add (k * 4)) = some (.int .i64 j.x) ∧ W.cell? ⟨(a.add (k * 4)).block, (a.add (k * 4)).off + 2, none⟩ = some (.int .i64 j.lo) ∧ W.cell? ⟨(a.add (k * 4)).block, (a.add (k * 4)).off + 3, none⟩ = some (.int .i64 j.hi)) := Lib.hid (fun W h => by
    obtain ⟨b, hb, _, i0, i1, i2, i3⟩ := h.ln.j.joint HJ.out
    simp only at hb
    injection hb with hb
    subst hb
    exact ⟨h, h.c.cell 1, i0, i2, i3⟩)
  obtain ⟨_, c1, y0, y2, y3⟩ := HALL.out _ S2.out
  have hqb := S2.out.qb
  have hql := S2.out.c.lt
  obtain ⟨p0, p1, _, _⟩ := S2.out.f.two
  go_upto_region 8 with fail
  go_cut [10, 11] from 35 (fun s10 s11 wx => ∃ d : Nat, s10 = .int .i64 j.x ∧ s11 = .pointer (some ⟨d, 0, none⟩) ∧ SV w wx L ⟨⟨some a, cj⟩, Hb, Hs, each⟩ flo fhi g0 q ∧ wx.cell? ⟨d, 0, none⟩ = some (.int .i64 j.lo) ∧ wx.cell? ⟨d, 1, none⟩ = some (.int .i64 j.hi))
  case first =>
    go_region_held3 (fun W => SV w W L ⟨⟨some a, cj⟩, Hb, Hs, each⟩ flo fhi g0 q ∧ W.cell? ⟨q, 1, none⟩ = some (.slice (some a) L.js.length cj) ∧ W.cell? (a.add (k * 4)) = some (.int .i64 j.x) ∧ W.cell? ⟨(a.add (k * 4)).block, (a.add (k * 4)).off + 2, none⟩ = some (.int .i64 j.lo) ∧ W.cell? ⟨(a.add (k * 4)).block, (a.add (k * 4)).off + 3, none⟩ = some (.int .i64 j.hi))
      ((go_split_ands; refine HALL.out _ ?_; (first | assumption | exact S2.out.drew | (repeat (first | assumption | exact S2.out | refine SV.alloc ?_ _ | refine SV.drew ?_ | (refine SV.set ?_ (by first | omega | (simp; done) | (simp; omega)) _)))); done))
      (fail "arm")
    all_goals
      go_split_ands
      go_wp2_with fail
      go_meet
      refine ⟨_, rfl, rfl, by assumption, ?_, ?_⟩
    all_goals (first | (go_simp; done) | (simp [*]; done) | skip)
  case rest =>
  obtain ⟨d, rfl, rfl, hS3, d0, d1⟩ := hcut
  have S3 := Lib.hid hS3
  clear hS3 S2 c1 y0 y2 y3 p0 p1
  obtain ⟨p0, p1, _, _⟩ := S3.out.f.two
  go_wp2_with fail
  refine (common_any flo fhi (j.x + j.lo) (j.x + j.hi) _).mono ?_
  rintro e w5 ⟨rfl, hb5⟩
  rw [HLO.out, HHI.out, HDE.out]
  have S5 := Lib.hid ((SV.from hb5 S3.out).alloc (.cells #[.int .i64 lo, .int .i64 hi] 54))
  have D5 := Lib.hid (Bk.new w5 54 #[.int .i64 lo, .int .i64 hi])
  clear hb5 S3 d0 d1 p0 p1
  obtain ⟨x0, x1, x2, x3⟩ := S5.out.x.four
  go_wp2_with fail
  refine (copyOf_own L ⟨⟨some a, cj⟩, Hb, Hs, each⟩ HL.out HH.out _ (S5.out.ln.more S5.out.bl.size)).mono ?_
  rintro e w6 ⟨G, rfl, ho6, hb6⟩
  have hw5 := D5.out.lt
  have hrl := S5.out.r.lt
  have W6 : Hid (WF w (w6.alloc (.cells #[.string L.name, .slice G.j.A L.js.length G.j.c, .slice G.b.A L.bs.length G.b.c, .slice G.s.A L.ss.length G.s.c] 26)) L L.js G w6.heap.size (w.heap.size + 1 + 1) _) := Lib.hid
    ⟨Bk.new w6 _ _, (S5.out.r.call hb6).alloc _, ho6.below ((Below.refl _ w6).alloc (Nat.le_refl _) _), (Below.step S5.out.bl hb6).alloc (Below.step S5.out.bl hb6).size _, rfl, hrl, by omega⟩
  have D6 := Lib.hid ((D5.out.call hb6).alloc (.cells #[.string L.name, .slice G.j.A L.js.length G.j.c, .slice G.b.A L.bs.length G.b.c, .slice G.s.A L.ss.length G.s.c] 26))
  clear hb6 ho6 x0 x1 x2 x3 S5 D5 hrl
  obtain ⟨g, hg, hgB, hgl⟩ := W6.out.own.row (by show 0 < L.js.length; omega)
  obtain ⟨a2, ha2, hab, y0, y1, y2, y3⟩ := W6.out.own.at_.j.joint HJ.out
  have hag : a2 = ⟨g, 0, none⟩ := by rw [hg] at ha2; injection ha2 with ha2; exact ha2.symm
  obtain ⟨⟨Aj2, cj2⟩, Gb, Gs, each2⟩ := G
  simp only at ha2 hg
  subst ha2
  have HAG := Lib.hid hag
  have HG := Lib.hid hg
  have HAD : Hid (a2.add (k * 4) = ⟨g, k * 4, none⟩) := Lib.hid (by rw [HAG.out]; exact add_zero g (k * 4))
  have FZ6 : Hid (∀ (W : World) (B n c : Nat) (xs : List Value), W.ownsRow B 56 4 (.slice (some a2) n c) n xs → ∀ i, W.frozen? ⟨g, i, none⟩ = false) := Lib.hid (fun W B n c xs h i => by
    rw [HAG.out] at h
    exact h.frozenAt i)
  obtain ⟨fz2, fz3⟩ : (w6.alloc (.cells #[.string L.name, .slice (some a2) L.js.length cj2, .slice Gb.A L.bs.length Gb.c, .slice Gs.A L.ss.length Gs.c] 26)).frozen? ⟨(a2.add (k * 4)).block, (a2.add (k * 4)).off + 2, none⟩ = false ∧ (w6.alloc (.cells #[.string L.name, .slice (some a2) L.js.length cj2, .slice Gb.A L.bs.length Gb.c, .slice Gs.A L.ss.length Gs.c] 26)).frozen? ⟨(a2.add (k * 4)).block, (a2.add (k * 4)).off + 3, none⟩ = false := by
    rw [HAD.out]
    exact ⟨FZ6.out _ _ _ _ _ W6.out.own.j _, FZ6.out _ _ _ _ _ W6.out.own.j _⟩
  obtain ⟨z0, z1, z2, z3⟩ := W6.out.box.four
  obtain ⟨e0, e1, _, _⟩ := D6.out.two
  have S8 : Hid (WF w (((w6.alloc (.cells #[.string L.name, .slice (some a2) L.js.length cj2, .slice Gb.A L.bs.length Gb.c, .slice Gs.A L.ss.length Gs.c] 26)).setCell ⟨(a2.add (k * 4)).block, (a2.add (k * 4)).off + 2, none⟩ (.int .i64 (lo - j.x))).setCell ⟨(a2.add (k * 4)).block, (a2.add (k * 4)).off + 2 + 1, none⟩ (.int .i64 (hi - j.x))) L (L.js.set k (survJ flo fhi j)) ⟨⟨some a2, cj2⟩, Gb, Gs, each2⟩ w6.heap.size (w.heap.size + 1 + 1) _) := Lib.hid (by
    have h := WF.setG W6.out HG.out HJ.out (lo - j.x) (hi - j.x)
    unfold survJ
    rw [HLO.out, HHI.out]
    rw [HAD.out]
    exact h)
  clear hag hg
  obtain ⟨z4, z5, z6, z7⟩ := S8.out.box.four
  obtain ⟨r0, r1, r2, r3⟩ := S8.out.res.four
  obtain ⟨f0, f1, f2, f3⟩ : _ ∧ _ ∧ _ ∧ _ := ⟨S8.out.res.frozen 0, S8.out.res.frozen 1, S8.out.res.frozen 2, S8.out.res.frozen 3⟩
  go_wp2_with fail
  refine bodyPost_ret (v := .tuple #[.agg #[.string L.name, .slice (some a2) L.js.length cj2, .slice Gb.A L.bs.length Gb.c, .slice Gs.A L.ss.length Gs.c], .int .i64 0]) (by simp [results, Try.results66, go_sem, r0, r1, r2, r3]) rfl ⟨⟨⟨some a2, cj2⟩, Gb, Gs, each2⟩, rfl, ?_, ?_⟩
  · have hrb := S8.out.rb
    have o2 := (((S8.out.own.far (p := ⟨w.heap.size + 1 + 1, 0, none⟩) hrb (.string L.name)).far (p := ⟨w.heap.size + 1 + 1, 1, none⟩) hrb (.slice (some a2) L.js.length cj2)).far (p := ⟨w.heap.size + 1 + 1, 2, none⟩) hrb (.slice Gb.A L.bs.length Gb.c)).far (p := ⟨w.heap.size + 1 + 1, 3, none⟩) hrb (.slice Gs.A L.ss.length Gs.c)
    exact o2.more (Nat.zero_le _)
  · exact (((S8.out.bl.setCell (by simp; omega) _).setCell (by simp; omega) _).setCell (by simp; omega) _).setCell (by simp; omega) _

end Go.Proofs.Ytmnlgeglmkdecaa
