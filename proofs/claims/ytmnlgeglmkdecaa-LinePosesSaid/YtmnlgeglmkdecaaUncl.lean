/-
  The walk of FirstUnclear.
-/
import Derived.Test.YtmnlgeglmkdecaaPoses
namespace Go.Proofs.Ytmnlgeglmkdecaa
open Go.RowKit
attribute [local go_sem] Oper.semAt_some

set_option maxRecDepth 100000 in
set_option maxHeartbeats 8000000 in
theorem FirstUnclear_good {L : Ll} (hr : Right L) (hck : ckLine L = ((0, 0), 0)) (H : Hds) (hL : L.ok) (v : Lv) (hv : vErr v = 0) (w : World) (hA : LnAt w w.heap.size L H) :
    Calls Try.prog 62 #[(.agg #[.string L.name, .slice H.j.A L.js.length H.j.c, .slice H.b.A L.bs.length H.b.c, .slice H.s.A L.ss.length H.s.c]), (.agg #[.int .i64 v.len, .int .i64 v.clear, .int .i64 v.step])] w fun e w' => e = .returned (unAns L v) ∧ Below w.heap.size w w' := by
  have b0 := ((((Below.refl w.heap.size w).alloc (Nat.le_refl _) (.cells #[.string L.name, .slice H.j.A L.js.length H.j.c, .slice H.b.A L.bs.length H.b.c, .slice H.s.A L.ss.length H.s.c] 26)).alloc (by simp) (.cells #[.int .i64 v.len, .int .i64 v.clear, .int .i64 v.step] 77)).alloc (by simp; omega) (.cells #[.int .i64 0, .int .i64 0, .int .i64 0, .int .i64 0] 91)).alloc (by simp; omega) (.cells #[.int .i64 0] 31)
  have V0 := Lib.hid (((Bk.new1 w (.cells #[.string L.name, .slice H.j.A L.js.length H.j.c, .slice H.b.A L.bs.length H.b.c, .slice H.s.A L.ss.length H.s.c] 26) 77 #[.int .i64 v.len, .int .i64 v.clear, .int .i64 v.step]).alloc (.cells #[.int .i64 0, .int .i64 0, .int .i64 0, .int .i64 0] 91)).alloc (.cells #[.int .i64 0] 31))
  have HB := Lib.hid b0
  have R0 := Lib.hid ((Bk.new2 w (.cells #[.string L.name, .slice H.j.A L.js.length H.j.c, .slice H.b.A L.bs.length H.b.c, .slice H.s.A L.ss.length H.s.c] 26) (.cells #[.int .i64 v.len, .int .i64 v.clear, .int .i64 v.step] 77) 91 #[.int .i64 0, .int .i64 0, .int .i64 0, .int .i64 0]).alloc (.cells #[.int .i64 0] 31))
  have E0 := Lib.hid (Bk.new3 w (.cells #[.string L.name, .slice H.j.A L.js.length H.j.c, .slice H.b.A L.bs.length H.b.c, .slice H.s.A L.ss.length H.s.c] 26) (.cells #[.int .i64 v.len, .int .i64 v.clear, .int .i64 v.step] 77) (.cells #[.int .i64 0, .int .i64 0, .int .i64 0, .int .i64 0] 91) 31 #[.int .i64 0])
  have HA := Lib.hid ((hA.below b0).more b0.size)
  have HA0 := Lib.hid hA
  have HC := Lib.hid hck
  have HR := Lib.hid hr
  have HV := Lib.hid hv
  clear b0 hA hck hr hv
  refine (callsIn_wide (n := 12)).1 ?_
  refine callsIn_of_wp_marks Try.func62 rfl trivial ?_ rfl
  simp only [Try.ntmps62, List.size_toArray, List.length_cons, List.length_nil, Nat.reduceAdd, Nat.reduceSub, Array.replicate_succ, Array.replicate_zero, List.push_toArray, List.append_toArray, List.nil_append, List.cons_append]
  gi_wp2_with (first | (refine ⟨trivial, ?_⟩; gi_at_call 117; refine (callsIn_wide.2 (checkRide_good HR.out HC.out H hL v HV.out _ HA.out)).mono ?_; rintro e w1 ⟨g, rfl, hb1, hP, hg⟩; have HP := Lib.hid hP; clear hP; have V1 := Lib.hid ((V0.out.call hb1).alloc (.cells #[.string L.name, .slice H.j.A L.js.length H.j.c, .slice H.b.A L.bs.length H.b.c, .slice H.s.A L.ss.length H.s.c, .slice (some ⟨g, 0, none⟩) L.js.length L.js.length] 119)); have K1 := Lib.hid (Bk.new w1 119 #[.string L.name, .slice H.j.A L.js.length H.j.c, .slice H.b.A L.bs.length H.b.c, .slice H.s.A L.ss.length H.s.c, .slice (some ⟨g, 0, none⟩) L.js.length L.js.length]); obtain ⟨v0, v1, v2⟩ := V1.out.three; obtain ⟨k0, k1, k2, k3, k4⟩ := K1.out.five) | (refine ⟨trivial, ?_⟩; gi_at_call 118; refine (callsIn_wide.2 (poses_any (L := L) H ⟨g, 0, none⟩ L.js.length v _)).mono ?_; rintro e w2 ⟨rfl, hw2⟩; have HW2 := Lib.hid hw2; clear hw2))
  have b1 : Below w.heap.size w w2 := by
    rw [HW2.out]
    have h1 := Below.step HB.out hb1
    have hz := h1.size
    exact ((h1.alloc h1.size _).alloc (by simp; omega) _).alloc (by simp; omega) _
  have k12 : Below w1.heap.size w1 w2 := by
    rw [HW2.out]
    exact (((Below.refl _ w1).alloc (Nat.le_refl _) _).alloc (by simp) _).alloc (by simp; omega) _
  have hz : w2.heap.size = w1.heap.size + 3 := by rw [HW2.out]; simp
  have hs2 : w1.heap.size + 3 ≤ w2.heap.size := by omega
  have hs1 : w.heap.size + 4 ≤ w1.heap.size := by have := hb1.size; simp at this; omega
  have X2 := Lib.hid (show Bk w2 w1.heap.size 119 #[.string L.name, .slice H.j.A L.js.length H.j.c, .slice H.b.A L.bs.length H.b.c, .slice H.s.A L.ss.length H.s.c, .slice (some ⟨g, 0, none⟩) L.js.length L.js.length] by rw [HW2.out]; exact ((Bk.new w1 _ _).alloc _).alloc _)
  have V2 := Lib.hid ((V0.out.call hb1).call k12)
  have R2 := Lib.hid ((R0.out.call hb1).call k12)
  have E2 := Lib.hid ((E0.out.call hb1).call k12)
  have C2 := Lib.hid (show Bk w2 (w1.heap.size + 1) 119 #[.string L.name, .slice H.j.A L.js.length H.j.c, .slice H.b.A L.bs.length H.b.c, .slice H.s.A L.ss.length H.s.c, .slice (some ⟨g, 0, none⟩) L.js.length L.js.length] by rw [HW2.out]; exact (Bk.new1 w1 _ _ _).alloc _)
  have W2 := Lib.hid (show Bk w2 (w1.heap.size + 1 + 1) 77 #[.int .i64 v.len, .int .i64 v.clear, .int .i64 v.step] by rw [HW2.out]; exact Bk.new2 w1 _ _ _ _)
  have L2 := Lib.hid ((HP.out.below k12).more (show w1.heap.size ≤ w2.heap.size by omega))
  have LA := Lib.hid (HA0.out.below b1)
  have B1 := Lib.hid b1
  obtain ⟨vl, ⟨vc0, vc1⟩, ⟨vs0, vs1⟩⟩ := vErr_in HV.out
  have HG := Lib.hid hg
  have HI := Lib.hid (nPose_iff (L := L) HV.out)
  clear b1 k12 hz HW2 V1 K1 v0 v1 v2 k0 k1 k2 k3 k4 hb1 HP V0 R0 E0 HB HA HA0 hg
  refine wpIn_rangeFunc_ownH (α := Pn (nPose L v)) rfl (by decide) (gf := 139) (lb := #[.pointer (some ⟨w1.heap.size + 1 + 1, 0, none⟩), .pointer (some ⟨w1.heap.size + 1, 0, none⟩)]) rfl trivial (enters_of Try.func139 (by kernel_rfl) rfl)
    (encs := fun x => #[.int .i64 ((x.1 : Int) * v.step)]) (Kp := Below w2.heap.size) (S := fun ys => ys = psB (nPose L v) (nPose L v)) (Sp := fun pre => ∃ k, k ≤ nPose L v ∧ pre = psB (nPose L v) k) (N := nPose L v) (w0 := w2)
    (fun l J Jx W hW hJ _ hY h0 => poses1_any (12 - 1) (by decide) HR.out H ⟨g, 0, none⟩ L.js.length v HV.out l (w1.heap.size + 1) w2.heap.size J Jx
      (fun s A B hs hb => hJ s A B none hs (grown_of_below hb) (fun r e => by cases e)) hY W (by omega) hW.size (C2.out.below hW (by omega)) (W2.out.below hW (by omega)) (L2.out.below hW) h0)
    belowK_t (belowK_b (Nat.le_refl _)) (Below.refl _ _) (fun _ => rfl)
    (fun pre W => unP L v (pre.map (fun x => x.1)) = none ∧ Below w2.heap.size w2 W)
    (fun c pre W => (c = .ret ∧ ∃ q j lo hi, unP L v (pre.map (fun x => x.1)) = some (q, j, lo, hi) ∧ Bk W (w.heap.size + 1 + 1) 91 #[.int .i64 q, .int .i64 j, .int .i64 lo, .int .i64 hi] ∧ Bk W (w.heap.size + 1 + 1 + 1) 31 #[.int .i64 0]) ∧ Below w.heap.size w W)
    (OwnFrom.and (fun s A B row hs _ _ => hs) (ownFrom_below (Nat.le_refl _) (Nat.le_refl _)))
    (fun c => OwnFrom.and (Own.from (fun s A B row hs hg hr => by obtain ⟨h1, q, j, lo, hi, h2, h3, h4⟩ := hs; exact ⟨h1, q, j, lo, hi, h2, h3.kept hg hr, h4.kept hg hr⟩) _) (ownFrom_below (Nat.le_refl _) (by omega)))
    ⟨rfl, Below.refl _ _⟩
    (fun x a' W => ∃ Bx, w2.heap.size ≤ Bx ∧ Bk W Bx 3 #[.int .i64 ((x.1 : Int) * v.step)] ∧ a' = { tmps := #[(.agg #[.string L.name, .slice H.j.A L.js.length H.j.c, .slice H.b.A L.bs.length H.b.c, .slice H.s.A L.ss.length H.s.c]), (.agg #[.int .i64 v.len, .int .i64 v.clear, .int .i64 v.step]), .pointer (some ⟨w.heap.size, 0, none⟩), .pointer (some ⟨w.heap.size + 1, 0, none⟩), .pointer (some ⟨w.heap.size + 1 + 1, 0, none⟩), .pointer (some ⟨w.heap.size + 1 + 1 + 1, 0, none⟩), .pointer (some ⟨w1.heap.size, 0, none⟩), .int .i64 0, .pointer (some ⟨Bx, 0, none⟩), undef, undef,
      .tuple #[.agg #[.string L.name, .slice H.j.A L.js.length H.j.c, .slice H.b.A L.bs.length H.b.c, .slice H.s.A L.ss.length H.s.c, .slice (some ⟨g, 0, none⟩) L.js.length L.js.length], .int .i64 0], (.agg #[.string L.name, .slice H.j.A L.js.length H.j.c, .slice H.b.A L.bs.length H.b.c, .slice H.s.A L.ss.length H.s.c]), (.agg #[.int .i64 v.len, .int .i64 v.clear, .int .i64 v.step]), .tuple #[.agg #[.string L.name, .slice H.j.A L.js.length H.j.c, .slice H.b.A L.bs.length H.b.c, .slice H.s.A L.ss.length H.s.c, .slice (some ⟨g, 0, none⟩) L.js.length L.js.length], .int .i64 0], .agg #[.string L.name, .slice H.j.A L.js.length H.j.c, .slice H.b.A L.bs.length H.b.c, .slice H.s.A L.ss.length H.s.c, .slice (some ⟨g, 0, none⟩) L.js.length L.js.length], .int .i64 0, .int .i64 0, .bool false, undef, undef, .agg #[.string L.name, .slice H.j.A L.js.length H.j.c, .slice H.b.A L.bs.length H.b.c, .slice H.s.A L.ss.length H.s.c, .slice (some ⟨g, 0, none⟩) L.js.length L.js.length], (.agg #[.int .i64 v.len, .int .i64 v.clear, .int .i64 v.step]),
      .func (.func 139) #[] #[.pointer (some ⟨w1.heap.size + 1 + 1, 0, none⟩), .pointer (some ⟨w1.heap.size + 1, 0, none⟩)], .int .i64 ((x.1 : Int) * v.step), undef, undef, undef, undef, undef, undef, undef, undef, undef, undef, undef, undef, undef, undef, undef, undef, undef, undef, undef], defers := [] })
    (fun x a' _ X Y row hs hg hr => by obtain ⟨Bx, e1, e2, e3⟩ := hs; exact ⟨Bx, e1, e2.kept hg (fun r e => (hr r e).2), e3⟩)
    ?assign ?body ?done ?stop
  case assign =>
    rintro l pre x W K ⟨hun, hB⟩ hK
    gi_wp2
    exact hK _ _ ((KeepsOthers.alloc _ _).from _) ((Below.refl _ W).alloc hB.size _) ⟨hun, hB.alloc hB.size _⟩ ⟨W.heap.size, hB.size, Bk.new W _ _, rfl⟩
  case body =>
    rintro l pre ⟨i, hi⟩ a' W hl ⟨r, hr⟩ ⟨hun, hB⟩ ⟨Bx, hBx, bX, rfl⟩ hlt
    have hmp : (pre ++ [(⟨i, hi⟩ : Pn (nPose L v))]).map (fun x => x.1) = pre.map (fun x => x.1) ++ [i] := by simp
    obtain ⟨is, his⟩ : ∃ is, pre.map (fun x => x.1) = is := ⟨_, rfl⟩
    rw [his] at hun hmp
    have HMP := Lib.hid hmp
    have hqT := (HI.out i).1 hi
    have hq0 : 0 ≤ (i : Int) * v.step := Int.mul_nonneg (by omega) (by omega)
    have HSN := Lib.hid (unP_snoc (i := i) hun)
    obtain ⟨q, hq⟩ : ∃ q, (i : Int) * v.step = q := ⟨_, rfl⟩
    simp only [hq] at bX HSN hqT hq0 ⊢
    have HQ := Lib.hid hq
    have CW := Lib.hid (X2.out.below hB (by omega))
    have VW := Lib.hid (V2.out.below hB (by omega))
    have RW := Lib.hid (R2.out.below hB (by omega))
    have EW := Lib.hid (E2.out.below hB (by omega))
    have XW := Lib.hid bX
    have LW := Lib.hid (L2.out.below hB)
    have AW := Lib.hid (LA.out.below (hB.mono (show w.heap.size ≤ w2.heap.size by omega)))
    have BW := Lib.hid (B1.out.trans (hB.mono (show w.heap.size ≤ w2.heap.size by omega)))
    have HW := Lib.hid hB
    have HRL := Lib.hid hr
    have HUN := Lib.hid hun
    have hsz := hB.size
    have hbx := bX.lt
    obtain ⟨c0, c1, c2, c3, c4⟩ := CW.out.five
    obtain ⟨v0, v1, v2⟩ := VW.out.three
    obtain ⟨x0, x1⟩ := XW.out.one
    have h1' : 1 ≤ 12 - 1 - 1 := by decide
    have p1 : q ≤ 2000000 := by have := (placeL_bound L.bs HR.out.b L.bs.length (Nat.le_refl _)).2; have := HR.out.most; omega
    obtain ⟨f1, f2, f3, f4⟩ := frontOf_at HR.out (p := q) (n := v.len) hq0 (by omega) (by omega)
    have F3 := Lib.hid f3
    have F4 := Lib.hid f4
    clear hun hB hr bX f3 f4 hq his hmp
    gi_wp2_with (refine ⟨trivial, ?_⟩; gi_at_call 112; refine (CallsIn.inRound l (callsIn_wide.2 (beneath_any (L := L) H ⟨g, 0, none⟩ L.js.length v q _))).mono ?_; rintro e w3 ⟨rfl, hw3⟩; have HW3 := Lib.hid hw3; clear hw3)
    have b3 : Below W.heap.size W w3 := by
      rw [HW3.out]
      exact (((Below.refl _ W).alloc (Nat.le_refl _) _).alloc (by simp) _).alloc (by simp; omega) _
    have z3 : w3.heap.size = W.heap.size + 3 := by rw [HW3.out]; simp
    have hr' : w3.heap[l]? = some (.loop r) := (b3.block l (Array.getElem?_eq_some_iff.1 HRL.out).1).trans HRL.out
    have C3 := Lib.hid (show Bk w3 W.heap.size 119 #[.string L.name, .slice H.j.A L.js.length H.j.c, .slice H.b.A L.bs.length H.b.c, .slice H.s.A L.ss.length H.s.c, .slice (some ⟨g, 0, none⟩) L.js.length L.js.length] by rw [HW3.out]; exact ((Bk.new W _ _).alloc _).alloc _)
    have W3 := Lib.hid (show Bk w3 (W.heap.size + 1) 77 #[.int .i64 v.len, .int .i64 v.clear, .int .i64 v.step] by rw [HW3.out]; exact (Bk.new1 W _ _ _).alloc _)
    have P3 := Lib.hid (show Bk w3 (W.heap.size + 1 + 1) 3 #[.int .i64 q] by rw [HW3.out]; exact Bk.new2 W _ _ _ _)
    have K3 := Lib.hid ((keeps_of_below b3).from w2.heap.size)
    have CX := Lib.hid (CW.out.call b3)
    have VX := Lib.hid (VW.out.call b3)
    have RX := Lib.hid (RW.out.call b3)
    have EX := Lib.hid (EW.out.call b3)
    have XX := Lib.hid (XW.out.call b3)
    have LX := Lib.hid ((LW.out.below (b3.mono hsz)).more (show w2.heap.size ≤ w3.heap.size by omega))
    have AX := Lib.hid (AW.out.below (b3.mono (show w.heap.size ≤ W.heap.size by omega)))
    have BX := Lib.hid (BW.out.trans (b3.mono (show w.heap.size ≤ W.heap.size by omega)))
    have HB3 := Lib.hid b3
    have hs3 : W.heap.size + 3 ≤ w3.heap.size := by omega
    clear HW3 b3 z3 c0 c1 c2 c3 c4 v0 v1 v2 x0 x1
    refine wpIn_rangeFunc_ownN (α := Ben (beamOf L q) (frontOf L (q + v.len))) (l₀ := l) (r₀ := r) rfl hr' h1' (gf := 136) (lb := #[.pointer (some ⟨W.heap.size, 0, none⟩), .pointer (some ⟨W.heap.size + 1 + 1, 0, none⟩), .pointer (some ⟨W.heap.size + 1, 0, none⟩)]) rfl trivial (enters_of Try.func136 (by kernel_rfl) rfl)
      (encs := fun x => #[.int .i64 (x.1 : Int)]) (Kp := Below w3.heap.size) (S := fun ys => ys = jsB (beamOf L q) (frontOf L (q + v.len)) (frontOf L (q + v.len))) (Sp := fun pre => ∃ k, k ≤ frontOf L (q + v.len) ∧ pre = jsB (beamOf L q) (frontOf L (q + v.len)) k) (N := frontOf L (q + v.len) - (beamOf L q + 1)) (w0 := w3)
      (SeqStopsK.inRound l (fun l' J Jx W' hW' hJ _ hY h0 => beneath1_any (12 - 1 - 1 - 1) (by decide) HR.out H ⟨g, 0, none⟩ L.js.length v HV.out q hq0 p1 (frontOf L (q + v.len)) f1 f2 F3.out F4.out l' W.heap.size w3.heap.size J Jx
        (fun s A B hs hb => hJ s A B none hs (grown_of_below hb) (fun r e => by cases e)) hY W' (by omega) hW'.size (C3.out.below hW' (by omega)) (W3.out.below hW' (by omega)) (P3.out.below hW' (by omega)) (LX.out.below hW') h0))
      belowK_t (belowK_b (Nat.le_refl _)) (Below.refl _ _) (fun _ => rfl)
      (fun pre' W' => unN L v q (pre'.map (fun x => x.1)) = none ∧ (Below w3.heap.size w3 W' ∧ KeepsFrom w2.heap.size W W'))
      (fun c pre' W' => (c = .ret ∧ ∃ j lo hi, unN L v q (pre'.map (fun x => x.1)) = some (j, lo, hi) ∧ Bk W' (w.heap.size + 1 + 1) 91 #[.int .i64 q, .int .i64 j, .int .i64 lo, .int .i64 hi] ∧ Bk W' (w.heap.size + 1 + 1 + 1) 31 #[.int .i64 0]) ∧ (Below w.heap.size w W' ∧ KeepsFrom w2.heap.size W W'))
      (OwnFrom.and (fun s A B row hs _ _ => hs) (OwnFrom.and (ownFrom_below (Nat.le_refl _) (Nat.le_refl _)) (ownFrom_keepsFrom (by omega))))
      (fun c => OwnFrom.and (Own.from (fun s A B row hs hg hr => by obtain ⟨h1, j, lo, hi, h2, h3, h4⟩ := hs; exact ⟨h1, j, lo, hi, h2, h3.kept hg hr, h4.kept hg hr⟩) _) (OwnFrom.and (ownFrom_below (Nat.le_refl _) (by omega)) (ownFrom_keepsFrom (by omega))))
      ⟨rfl, Below.refl _ _, K3.out⟩
      (fun y a'' _ => a'' = { tmps := #[(.agg #[.string L.name, .slice H.j.A L.js.length H.j.c, .slice H.b.A L.bs.length H.b.c, .slice H.s.A L.ss.length H.s.c]), (.agg #[.int .i64 v.len, .int .i64 v.clear, .int .i64 v.step]), .pointer (some ⟨w.heap.size, 0, none⟩), .pointer (some ⟨w.heap.size + 1, 0, none⟩), .pointer (some ⟨w.heap.size + 1 + 1, 0, none⟩), .pointer (some ⟨w.heap.size + 1 + 1 + 1, 0, none⟩), .pointer (some ⟨w1.heap.size, 0, none⟩), .int .i64 0, .pointer (some ⟨Bx, 0, none⟩), .int .i64 (y.1 : Int), undef,
        .tuple #[.agg #[.string L.name, .slice H.j.A L.js.length H.j.c, .slice H.b.A L.bs.length H.b.c, .slice H.s.A L.ss.length H.s.c, .slice (some ⟨g, 0, none⟩) L.js.length L.js.length], .int .i64 0], (.agg #[.string L.name, .slice H.j.A L.js.length H.j.c, .slice H.b.A L.bs.length H.b.c, .slice H.s.A L.ss.length H.s.c]), (.agg #[.int .i64 v.len, .int .i64 v.clear, .int .i64 v.step]), .tuple #[.agg #[.string L.name, .slice H.j.A L.js.length H.j.c, .slice H.b.A L.bs.length H.b.c, .slice H.s.A L.ss.length H.s.c, .slice (some ⟨g, 0, none⟩) L.js.length L.js.length], .int .i64 0], .agg #[.string L.name, .slice H.j.A L.js.length H.j.c, .slice H.b.A L.bs.length H.b.c, .slice H.s.A L.ss.length H.s.c, .slice (some ⟨g, 0, none⟩) L.js.length L.js.length], .int .i64 0, .int .i64 0, .bool false, undef, undef, .agg #[.string L.name, .slice H.j.A L.js.length H.j.c, .slice H.b.A L.bs.length H.b.c, .slice H.s.A L.ss.length H.s.c, .slice (some ⟨g, 0, none⟩) L.js.length L.js.length], (.agg #[.int .i64 v.len, .int .i64 v.clear, .int .i64 v.step]),
        .func (.func 139) #[] #[.pointer (some ⟨w1.heap.size + 1 + 1, 0, none⟩), .pointer (some ⟨w1.heap.size + 1, 0, none⟩)], .int .i64 q, .agg #[.string L.name, .slice H.j.A L.js.length H.j.c, .slice H.b.A L.bs.length H.b.c, .slice H.s.A L.ss.length H.s.c, .slice (some ⟨g, 0, none⟩) L.js.length L.js.length], (.agg #[.int .i64 v.len, .int .i64 v.clear, .int .i64 v.step]), .int .i64 q,
        .func (.func 136) #[] #[.pointer (some ⟨W.heap.size, 0, none⟩), .pointer (some ⟨W.heap.size + 1 + 1, 0, none⟩), .pointer (some ⟨W.heap.size + 1, 0, none⟩)], .int .i64 (y.1 : Int), undef, undef, undef, undef, undef, undef, undef, undef, undef, undef, undef, undef, undef, undef], defers := [] })
      (fun _ _ _ _ _ _ hs _ _ => hs)
      ?assign2 ?body2 ?done2 ?stop2
    case assign2 =>
      rintro l2 pre' y W' K hi hK
      gi_wp2
      exact hK _ _ (KeepsFrom.refl _ _) (Below.refl _ _) hi rfl
    case body2 =>
      rintro l2 pre' ⟨x, hx1, hx2⟩ a'' W' _ _ ⟨hun2, hB2, hKF⟩ rfl _
      have hmp2 : (pre' ++ [(⟨x, hx1, hx2⟩ : Ben (beamOf L q) (frontOf L (q + v.len)))]).map (fun x => x.1) = pre'.map (fun x => x.1) ++ [x] := by simp
      obtain ⟨xs, hxs⟩ : ∃ xs, pre'.map (fun x => x.1) = xs := ⟨_, rfl⟩
      rw [hxs] at hun2 hmp2
      have HMP2 := Lib.hid hmp2
      have CY := Lib.hid (CX.out.below hB2 (by omega))
      have VY := Lib.hid (VX.out.below hB2 (by omega))
      have RY := Lib.hid (RX.out.below hB2 (by omega))
      have EY := Lib.hid (EX.out.below hB2 (by omega))
      have XY := Lib.hid (XX.out.below hB2 (by omega))
      have LY := Lib.hid ((LX.out.below hB2).more hB2.size)
      have AY := Lib.hid ((AX.out.below (hB2.mono (show w.heap.size ≤ w3.heap.size by omega))).more (show w.heap.size ≤ W'.heap.size by have := hB2.size; omega))
      have BY := Lib.hid (BX.out.trans (hB2.mono (show w.heap.size ≤ w3.heap.size by omega)))
      have HY2 := Lib.hid hB2
      have HKF := Lib.hid hKF
      have hsz2 := hB2.size
      have hsN := unN_snoc L v q xs x hun2
      have hd : 1 ≤ 12 - 1 - 1 - 1 - 1 := by decide
      have hxj : x < L.js.length := by have := HR.out.jb; omega
      have h2 := F3.out x hx1 hx2
      have h1 : q ≤ placeL L.bs x := by
        by_cases hxe : x < L.bs.length
        · have := (beamOf_at HR.out hq0).2.2 x hx1 hxe; omega
        · omega
      have h3 : placeL L.bs x ≤ q + v.len := by omega
      have HDV := Lib.hid (deviation_at HR.out H ⟨g, 0, none⟩ L.js.length v HV.out q x hq0 hqT hxj h1 h3 _ AY.out LY.out)
      obtain ⟨lo, hlo⟩ : ∃ r, devLo L v q x = r := ⟨_, rfl⟩
      obtain ⟨hi', hhi⟩ : ∃ r, devHi L v q x = r := ⟨_, rfl⟩
      rw [hlo, hhi] at HDV hsN
      have HSX := Lib.hid hsN
      obtain ⟨c0, c1, c2, c3, c4⟩ := CY.out.five
      obtain ⟨v0, v1, v2⟩ := VY.out.three
      obtain ⟨x0, x1⟩ := XY.out.one
      clear hun2 hB2 hKF hxs hlo hhi h1 h2 h3 hsN hmp2
      cases hin : insB v.clear lo hi' with
      | true =>
        have HIN := Lib.hid hin
        clear hin
        gi_wp2_with (first | (refine ⟨trivial, ?_⟩; gi_at_call 113; refine (CallsIn.inRound l2 (callsIn_wide.2 HDV.out)).mono ?_; rintro e w5 ⟨rfl, hb5⟩; have HB5 := Lib.hid hb5; have D5 := Lib.hid (Bk.new w5 54 #[.int .i64 lo, .int .i64 hi']); have V5 := Lib.hid ((VY.out.call hb5).alloc (.cells #[.int .i64 lo, .int .i64 hi'] 54)); have z5 := hb5.size; clear hb5 v0 v1 v2; obtain ⟨v0, v1, v2⟩ := V5.out.three; obtain ⟨d0, d1, _, _⟩ := D5.out.two) | (refine ⟨trivial, ?_⟩; gi_at_call 116; refine (CallsIn.inRound l2 (callsIn_wide.2 (isClear_any v ⟨vc0, vc1⟩ lo hi' _))).mono ?_; rintro e w6 ⟨rfl, hb6⟩; rw [HIN.out]; have HB6 := Lib.hid hb6; have z6 := hb6.size; clear hb6))
        have k6 := (((Below.refl _ w5).alloc (Nat.le_refl _) (.cells #[.int .i64 lo, .int .i64 hi'] 54)).trans (HB6.out.mono (by simp)))
        have kk := Below.step HB5.out k6
        exact ⟨(keeps_of_below kk).from _, kk.mono hsz2, by rw [HMP2.out, HSX.out, if_pos HIN.out], HY2.out.trans (kk.mono hsz2), HKF.out.trans ((keeps_of_below kk).from _)⟩
      | false =>
        have HIN := Lib.hid hin
        clear hin
        gi_wp2_with (first | (refine ⟨trivial, ?_⟩; gi_at_call 113; refine (CallsIn.inRound l2 (callsIn_wide.2 HDV.out)).mono ?_; rintro e w5 ⟨rfl, hb5⟩; have HB5 := Lib.hid hb5; have D5 := Lib.hid (Bk.new w5 54 #[.int .i64 lo, .int .i64 hi']); have V5 := Lib.hid ((VY.out.call hb5).alloc (.cells #[.int .i64 lo, .int .i64 hi'] 54)); have R5 := Lib.hid ((RY.out.call hb5).alloc (.cells #[.int .i64 lo, .int .i64 hi'] 54)); have E5 := Lib.hid ((EY.out.call hb5).alloc (.cells #[.int .i64 lo, .int .i64 hi'] 54)); have Q5 := Lib.hid ((XY.out.call hb5).alloc (.cells #[.int .i64 lo, .int .i64 hi'] 54)); have z5 := hb5.size; clear hb5 v0 v1 v2 x0 x1; obtain ⟨v0, v1, v2⟩ := V5.out.three; obtain ⟨d0, d1, _, _⟩ := D5.out.two) | (refine ⟨trivial, ?_⟩; gi_at_call 116; refine (CallsIn.inRound l2 (callsIn_wide.2 (isClear_any v ⟨vc0, vc1⟩ lo hi' _))).mono ?_; rintro e w6 ⟨rfl, hb6⟩; rw [HIN.out]; have HB6 := Lib.hid hb6; have D6 := Lib.hid (D5.out.call hb6); have R6 := Lib.hid (R5.out.call hb6); have E6 := Lib.hid (E5.out.call hb6); have Q6 := Lib.hid (Q5.out.call hb6); have z6 := hb6.size; clear hb6 d0 d1; obtain ⟨d0, d1, _, _⟩ := D6.out.two; obtain ⟨r0, r1, r2, r3⟩ := R6.out.four; obtain ⟨f0, f1', f2', f3'⟩ : _ ∧ _ ∧ _ ∧ _ := ⟨R6.out.frozen 0, R6.out.frozen 1, R6.out.frozen 2, R6.out.frozen 3⟩; obtain ⟨e0, e1⟩ := E6.out.one; obtain ⟨x0, x1⟩ := Q6.out.one))
        have k6 := (((Below.refl _ w5).alloc (Nat.le_refl _) (.cells #[.int .i64 lo, .int .i64 hi'] 54)).trans (HB6.out.mono (by simp)))
        have kk := Below.step HB5.out k6
        have ks := (keeps_of_below kk).trans (((((KeepsOthers.setCell w6 ⟨w.heap.size + 1 + 1, 0, none⟩ (.int .i64 q)).trans (KeepsOthers.setCell _ ⟨w.heap.size + 1 + 1, 1, none⟩ (.int .i64 (x : Int)))).trans (KeepsOthers.setCell _ ⟨w.heap.size + 1 + 1, 2, none⟩ (.int .i64 lo))).trans (KeepsOthers.setCell _ ⟨w.heap.size + 1 + 1, 3, none⟩ (.int .i64 hi'))).trans (KeepsOthers.setCell _ ⟨w.heap.size + 1 + 1 + 1, 0, none⟩ (.int .i64 0)))
        have bl := (((((BY.out.trans (kk.mono (show w.heap.size ≤ W'.heap.size by omega))).setCell (p := ⟨w.heap.size + 1 + 1, 0, none⟩) (by simp; omega) (.int .i64 q)).setCell (p := ⟨w.heap.size + 1 + 1, 1, none⟩) (by simp; omega) (.int .i64 (x : Int))).setCell (p := ⟨w.heap.size + 1 + 1, 2, none⟩) (by simp; omega) (.int .i64 lo)).setCell (p := ⟨w.heap.size + 1 + 1, 3, none⟩) (by simp; omega) (.int .i64 hi')).setCell (p := ⟨w.heap.size + 1 + 1 + 1, 0, none⟩) (by simp; omega) (.int .i64 0)
        exact ⟨ks.from _, ⟨rfl, (x : Int), lo, hi', by rw [HMP2.out, HSX.out, if_neg (by rw [HIN.out]; decide)], ((((R6.out.put 0 _).put 1 _).put 2 _).put 3 _).far (by simp) _, ((((E6.out.far (by simp) _).far (by simp) _).far (by simp) _).far (by simp) _).put 0 _⟩, bl, HKF.out.trans (ks.from _)⟩
    case done2 =>
      rintro ys' W' rfl ⟨hun2, hB2, hKF⟩
      rw [jsB_map _ _ _ (Nat.le_refl _)] at hun2
      have h4 := HB3.out
      gi_wp2
      refine ⟨hKF, (h4.mono hsz).trans (hB2.mono (by omega)), ?_, HW.out.trans ((h4.mono hsz).trans (hB2.mono (by omega)))⟩
      rw [HMP.out, HSN.out]
      show Option.map _ (unN L v q (jsTo (beamOf L q) (frontOf L (q + v.len)))) = none
      rw [hun2]
      rfl
    case stop2 =>
      rintro c pre' W' hpre ⟨⟨rfl, j, lo, hi', hun2, hr2, he2⟩, hB2, hKF⟩
      obtain ⟨k, hk, rfl⟩ := hpre
      rw [jsB_map _ _ _ hk] at hun2
      obtain ⟨m, hm⟩ := jsTo_split (r := beamOf L q) hk
      gi_wp2
      refine ⟨hKF, ⟨rfl, q, j, lo, hi', ?_, hr2, he2⟩, hB2⟩
      rw [HMP.out, HSN.out]
      show Option.map _ (unN L v q (jsTo (beamOf L q) (frontOf L (q + v.len)))) = _
      rw [hm, unN_take L v q _ m hun2]
      rfl
  case done =>
    rintro D ys W hD rfl ⟨hun, hB⟩ hK
    rw [psB_map (Nat.le_refl _)] at hun
    have hans : unAns L v = .tuple #[.agg #[.int .i64 0, .int .i64 0, .int .i64 0, .int .i64 0], .int .i64 12] := by unfold unAns unL; rw [hun]
    have HANS := Lib.hid hans
    have R3 := Lib.hid (R2.out.below hB (by omega))
    have E3 := Lib.hid (E2.out.below hB (by omega))
    obtain ⟨r0, r1, r2, r3⟩ := R3.out.four
    obtain ⟨f0, f1', f2', f3'⟩ : _ ∧ _ ∧ _ ∧ _ := ⟨R3.out.frozen 0, R3.out.frozen 1, R3.out.frozen 2, R3.out.frozen 3⟩
    obtain ⟨e0, e1⟩ := E3.out.one
    have HW := Lib.hid hB
    have BW := Lib.hid (B1.out.trans (hB.mono (show w.heap.size ≤ w2.heap.size by omega)))
    clear hun hB hans
    gi_wp2
    have ks := ((((KeepsOthers.setCell W ⟨w.heap.size + 1 + 1, 0, none⟩ (.int .i64 0)).trans (KeepsOthers.setCell _ ⟨w.heap.size + 1 + 1, 1, none⟩ (.int .i64 0))).trans (KeepsOthers.setCell _ ⟨w.heap.size + 1 + 1, 2, none⟩ (.int .i64 0))).trans (KeepsOthers.setCell _ ⟨w.heap.size + 1 + 1, 3, none⟩ (.int .i64 0))).trans (KeepsOthers.setCell _ ⟨w.heap.size + 1 + 1 + 1, 0, none⟩ (.int .i64 12))
    have q1 := ((((R3.out.put 0 (.int .i64 0)).put 1 (.int .i64 0)).put 2 (.int .i64 0)).put 3 (.int .i64 0)).far (p := ⟨w.heap.size + 1 + 1 + 1, 0, none⟩) (by simp) (.int .i64 12)
    have q2 := ((((E3.out.far (p := ⟨w.heap.size + 1 + 1, 0, none⟩) (by simp) (.int .i64 0)).far (p := ⟨w.heap.size + 1 + 1, 1, none⟩) (by simp) (.int .i64 0)).far (p := ⟨w.heap.size + 1 + 1, 2, none⟩) (by simp) (.int .i64 0)).far (p := ⟨w.heap.size + 1 + 1, 3, none⟩) (by simp) (.int .i64 0)).put 0 (.int .i64 12)
    have bl := ((((BW.out.setCell (p := ⟨w.heap.size + 1 + 1, 0, none⟩) (by simp; omega) (.int .i64 0)).setCell (p := ⟨w.heap.size + 1 + 1, 1, none⟩) (by simp; omega) (.int .i64 0)).setCell (p := ⟨w.heap.size + 1 + 1, 2, none⟩) (by simp; omega) (.int .i64 0)).setCell (p := ⟨w.heap.size + 1 + 1, 3, none⟩) (by simp; omega) (.int .i64 0)).setCell (p := ⟨w.heap.size + 1 + 1 + 1, 0, none⟩) (by simp; omega) (.int .i64 12)
    have hK' := ks.same D _ hK rfl
    generalize ((((W.setCell ⟨w.heap.size + 1 + 1, 0, none⟩ (.int .i64 0)).setCell ⟨w.heap.size + 1 + 1, 1, none⟩ (.int .i64 0)).setCell ⟨w.heap.size + 1 + 1, 2, none⟩ (.int .i64 0)).setCell ⟨w.heap.size + 1 + 1, 3, none⟩ (.int .i64 0)).setCell ⟨w.heap.size + 1 + 1 + 1, 0, none⟩ (.int .i64 12) = W5 at *
    refine ⟨by simp, .inl ⟨_, _, rfl, run_takeDeferred hK', ?_⟩⟩
    obtain ⟨u0, u1, u2, u3⟩ := (Bk.kept q1 (grownBy_putObj' W5 D (.deferred none)) (fun r e => by cases e; exact ⟨_, hK', rfl⟩)).four
    obtain ⟨u4, _⟩ := (Bk.kept q2 (grownBy_putObj' W5 D (.deferred none)) (fun r e => by cases e; exact ⟨_, hK', rfl⟩)).one
    refine ⟨.tuple #[.agg #[.int .i64 0, .int .i64 0, .int .i64 0, .int .i64 0], .int .i64 12], ?_, by rw [HANS.out], bl.trans (belowK_b (w := w) (Nat.le_refl _) _ D _ _ (by omega) hK' rfl rfl)⟩
    simp [results, Try.f62, go_sem, u0, u1, u2, u3, u4]
  case stop =>
    rintro D c pre W hD hpre ⟨⟨rfl, q, j, lo, hi, hun, hr3, he3⟩, hB⟩ hK
    obtain ⟨k, hk, rfl⟩ := hpre
    rw [psB_map hk] at hun
    obtain ⟨m, hm⟩ := range_split hk
    have hans : unAns L v = .tuple #[.agg #[.int .i64 q, .int .i64 j, .int .i64 lo, .int .i64 hi], .int .i64 0] := by
      unfold unAns unL
      rw [hm, unP_take _ m hun]
    have HANS := Lib.hid hans
    have R3 := Lib.hid hr3
    have E3 := Lib.hid he3
    clear hr3 he3 hans hun hm
    gi_wp2
    refine ⟨by simp, .inl ⟨_, _, rfl, run_takeDeferred hK, ?_⟩⟩
    obtain ⟨u0, u1, u2, u3⟩ := (Bk.kept R3.out (grownBy_putObj' W D (.deferred none)) (fun r e => by cases e; exact ⟨_, hK, rfl⟩)).four
    obtain ⟨u4, _⟩ := (Bk.kept E3.out (grownBy_putObj' W D (.deferred none)) (fun r e => by cases e; exact ⟨_, hK, rfl⟩)).one
    refine ⟨.tuple #[.agg #[.int .i64 q, .int .i64 j, .int .i64 lo, .int .i64 hi], .int .i64 0], ?_, by rw [HANS.out], hB.trans (belowK_b (w := w) (Nat.le_refl _) W D _ _ (by omega) hK rfl rfl)⟩
    simp [results, Try.f62, go_sem, u0, u1, u2, u3, u4]
end Go.Proofs.Ytmnlgeglmkdecaa
