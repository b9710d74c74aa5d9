/-
  The walk of ClearAt at a pose.
-/
import Derived.Test.YtmnlgeglmkdecaaPosA
namespace Go.Proofs.Ytmnlgeglmkdecaa
open Go.RowKit
attribute [local go_sem] Oper.semAt_some

theorem benN_mem {L : Ll} {v : Lv} {p : Int} (x : Ben (beamOf L p) (frontOf L (p + v.len))) : x.1 ∈ benN L v p := jsTo_mem.2 x.2
theorem devsN_mem {L : Ll} {v : Lv} {p : Int} {k : Nat} {l : List Nat} (h : k ∈ l) : (devLo L v p k, devHi L v p k) ∈ devsN L v p l := List.mem_map.2 ⟨k, h, rfl⟩
theorem noB_no {c lo hi : Int} (h : noB c lo hi = false) : ¬ hi < -c ∧ ¬ c < lo := by
  unfold noB at h
  simp at h
  omega

set_option maxRecDepth 100000 in
set_option maxHeartbeats 4000000 in
theorem ClearAt_good {L : Ll} (hr : Right L) (hck : ckLine L = ((0, 0), 0)) (H : Hds) (hL : L.ok) (v : Lv) (hv : vErr v = 0) (p : Int) (hp : inB p 0 (placeL L.bs L.bs.length - v.len) = true) (hm : p.tmod v.step = 0) (w : World) (hA : LnAt w w.heap.size L H) :
    Calls Try.prog 61 #[(.agg #[.string L.name, .slice H.j.A L.js.length H.j.c, .slice H.b.A L.bs.length H.b.c, .slice H.s.A L.ss.length H.s.c]), (.agg #[.int .i64 v.len, .int .i64 v.clear, .int .i64 v.step]), .int .i64 p] w fun e w' => e = .returned (.tuple #[.int .i64 (clrV v.clear (devsN L v p (benN L v p))), .int .i64 0]) ∧ Below w.heap.size w w' := by
  have b0 := (((((Below.refl w.heap.size w).alloc (Nat.le_refl _) (.cells #[.string L.name, .slice H.j.A L.js.length H.j.c, .slice H.b.A L.bs.length H.b.c, .slice H.s.A L.ss.length H.s.c] 26)).alloc (by simp) (.cells #[.int .i64 v.len, .int .i64 v.clear, .int .i64 v.step] 77)).alloc (by simp; omega) (.cells #[.int .i64 p] 3)).alloc (by simp; omega) (.cells #[.int .i64 0] 3)).alloc (by simp; omega) (.cells #[.int .i64 0] 31)
  have V0 := Lib.hid ((((Bk.new1 w (.cells #[.string L.name, .slice H.j.A L.js.length H.j.c, .slice H.b.A L.bs.length H.b.c, .slice H.s.A L.ss.length H.s.c] 26) 77 #[.int .i64 v.len, .int .i64 v.clear, .int .i64 v.step]).alloc (.cells #[.int .i64 p] 3)).alloc (.cells #[.int .i64 0] 3)).alloc (.cells #[.int .i64 0] 31))
  have A0 := Lib.hid (((Bk.new2 w (.cells #[.string L.name, .slice H.j.A L.js.length H.j.c, .slice H.b.A L.bs.length H.b.c, .slice H.s.A L.ss.length H.s.c] 26) (.cells #[.int .i64 v.len, .int .i64 v.clear, .int .i64 v.step] 77) 3 #[.int .i64 p]).alloc (.cells #[.int .i64 0] 3)).alloc (.cells #[.int .i64 0] 31))
  have HB := Lib.hid b0
  have R0 := Lib.hid ((Bk.new3 w (.cells #[.string L.name, .slice H.j.A L.js.length H.j.c, .slice H.b.A L.bs.length H.b.c, .slice H.s.A L.ss.length H.s.c] 26) (.cells #[.int .i64 v.len, .int .i64 v.clear, .int .i64 v.step] 77) (.cells #[.int .i64 p] 3) 3 #[.int .i64 0]).alloc (.cells #[.int .i64 0] 31))
  have E0 := Lib.hid (Bk.new4 w (.cells #[.string L.name, .slice H.j.A L.js.length H.j.c, .slice H.b.A L.bs.length H.b.c, .slice H.s.A L.ss.length H.s.c] 26) (.cells #[.int .i64 v.len, .int .i64 v.clear, .int .i64 v.step] 77) (.cells #[.int .i64 p] 3) (.cells #[.int .i64 0] 3) 31 #[.int .i64 0])
  have HA := Lib.hid ((hA.below b0).more b0.size)
  have HA0 := Lib.hid hA
  have HC := Lib.hid hck
  have HR := Lib.hid hr
  have HV := Lib.hid hv
  have HP0 := Lib.hid hp
  have HM := Lib.hid hm
  clear b0 hA hck hr hv hp hm
  refine (callsIn_wide (n := 8)).1 ?_
  refine callsIn_of_wp_marks Try.func61 rfl trivial ?_ rfl
  simp only [Try.ntmps61, List.size_toArray, List.length_cons, List.length_nil, Nat.reduceAdd, Nat.reduceSub, Array.replicate_succ, Array.replicate_zero, List.push_toArray, List.append_toArray, List.nil_append, List.cons_append]
  gi_wp2_with (first | (refine ⟨trivial, ?_⟩; gi_at_call 111; refine (callsIn_wide.2 (checkPose_good HR.out HC.out H hL v HV.out p HP0.out HM.out _ HA.out)).mono ?_; rintro e w1 ⟨g, rfl, hb1, hP, hg⟩; have HP := Lib.hid hP; clear hP; have V1 := Lib.hid (((V0.out.call hb1).alloc (.cells #[.string L.name, .slice H.j.A L.js.length H.j.c, .slice H.b.A L.bs.length H.b.c, .slice H.s.A L.ss.length H.s.c, .slice (some ⟨g, 0, none⟩) L.js.length L.js.length] 119)).alloc (.cells #[.int .i64 2] 3)); have A1 := Lib.hid (((A0.out.call hb1).alloc (.cells #[.string L.name, .slice H.j.A L.js.length H.j.c, .slice H.b.A L.bs.length H.b.c, .slice H.s.A L.ss.length H.s.c, .slice (some ⟨g, 0, none⟩) L.js.length L.js.length] 119)).alloc (.cells #[.int .i64 2] 3)); have K1 := Lib.hid ((Bk.new w1 119 #[.string L.name, .slice H.j.A L.js.length H.j.c, .slice H.b.A L.bs.length H.b.c, .slice H.s.A L.ss.length H.s.c, .slice (some ⟨g, 0, none⟩) L.js.length L.js.length]).alloc (.cells #[.int .i64 2] 3)); obtain ⟨v0, v1, v2⟩ := V1.out.three; obtain ⟨a0, a1⟩ := A1.out.one; obtain ⟨k0, k1, k2, k3, k4⟩ := K1.out.five) | (refine ⟨trivial, ?_⟩; gi_at_call 112; refine (callsIn_wide.2 (beneath_any (L := L) H ⟨g, 0, none⟩ L.js.length v p _)).mono ?_; rintro e w2 ⟨rfl, hw2⟩; have HW2 := Lib.hid hw2; clear hw2))
  have b1 : Below w.heap.size w w2 := by
    rw [HW2.out]
    have h1 := Below.step HB.out hb1
    have hz := h1.size
    exact ((((h1.alloc h1.size _).alloc (by simp; omega) _).alloc (by simp; omega) _).alloc (by simp; omega) _).alloc (by simp; omega) _
  have k12 : Below w1.heap.size w1 w2 := by
    rw [HW2.out]
    exact (((((Below.refl _ w1).alloc (Nat.le_refl _) _).alloc (by simp) _).alloc (by simp; omega) _).alloc (by simp; omega) _).alloc (by simp; omega) _
  have hz : w2.heap.size = w1.heap.size + 5 := by rw [HW2.out]; simp
  have hs2 : w1.heap.size + 5 ≤ w2.heap.size := by omega
  have hs1 : w.heap.size + 5 ≤ w1.heap.size := by have := hb1.size; simp at this; omega
  have X2 := Lib.hid (show Bk w2 w1.heap.size 119 #[.string L.name, .slice H.j.A L.js.length H.j.c, .slice H.b.A L.bs.length H.b.c, .slice H.s.A L.ss.length H.s.c, .slice (some ⟨g, 0, none⟩) L.js.length L.js.length] by rw [HW2.out]; exact ((((Bk.new w1 _ _).alloc _).alloc _).alloc _).alloc _)
  have N2 := Lib.hid (show Bk w2 (w1.heap.size + 1) 3 #[.int .i64 2] by rw [HW2.out]; exact (((Bk.new1 w1 _ _ _).alloc _).alloc _).alloc _)
  have V2 := Lib.hid ((V0.out.call hb1).call k12)
  have A2 := Lib.hid ((A0.out.call hb1).call k12)
  have R2 := Lib.hid ((R0.out.call hb1).call k12)
  have E2 := Lib.hid ((E0.out.call hb1).call k12)
  have C2 := Lib.hid (show Bk w2 (w1.heap.size + 1 + 1) 119 #[.string L.name, .slice H.j.A L.js.length H.j.c, .slice H.b.A L.bs.length H.b.c, .slice H.s.A L.ss.length H.s.c, .slice (some ⟨g, 0, none⟩) L.js.length L.js.length] by rw [HW2.out]; exact ((Bk.new2 w1 _ _ _ _).alloc _).alloc _)
  have W2 := Lib.hid (show Bk w2 (w1.heap.size + 1 + 1 + 1) 77 #[.int .i64 v.len, .int .i64 v.clear, .int .i64 v.step] by rw [HW2.out]; exact (Bk.new3 w1 _ _ _ _ _).alloc _)
  have P2 := Lib.hid (show Bk w2 (w1.heap.size + 1 + 1 + 1 + 1) 3 #[.int .i64 p] by rw [HW2.out]; exact Bk.new4 w1 _ _ _ _ _ _)
  have L2 := Lib.hid (HP.out.below k12)
  have LA := Lib.hid (HA0.out.below b1)
  have B1 := Lib.hid b1
  obtain ⟨vl, ⟨vc0, vc1⟩, _⟩ := vErr_in HV.out
  obtain ⟨p0, pT⟩ := inB_iff.1 HP0.out
  have p1 : p ≤ 2000000 := by have := (placeL_bound L.bs HR.out.b L.bs.length (Nat.le_refl _)).2; have := HR.out.most; omega
  obtain ⟨f1, f2, f3, f4⟩ := frontOf_at HR.out (p := p) (n := v.len) p0 (by omega) (by omega)
  have F3 := Lib.hid f3
  have F4 := Lib.hid f4
  have HG := Lib.hid hg
  have tn := IntWalk.i64_in (-v.clear) (by omega)
  clear b1 k12 hz HW2 V1 A1 K1 v0 v1 v2 a0 a1 k0 k1 k2 k3 k4 hb1 HP V0 A0 R0 E0 HB HA HA0 f3 f4 hg
  refine wpIn_rangeFunc_ownF (α := Ben (beamOf L p) (frontOf L (p + v.len))) rfl (by decide) (gf := 136) (lb := #[.pointer (some ⟨w1.heap.size + 1 + 1, 0, none⟩), .pointer (some ⟨w1.heap.size + 1 + 1 + 1 + 1, 0, none⟩), .pointer (some ⟨w1.heap.size + 1 + 1 + 1, 0, none⟩)]) rfl trivial (enters_of Try.func136 (by kernel_rfl) rfl)
    (encs := fun x => #[.int .i64 (x.1 : Int)]) (Kp := But (w1.heap.size + 1) w2.heap.size) (S := fun ys => ys = jsB (beamOf L p) (frontOf L (p + v.len)) (frontOf L (p + v.len))) (Sp := fun pre => ∃ k, k ≤ frontOf L (p + v.len) ∧ pre = jsB (beamOf L p) (frontOf L (p + v.len)) k) (N := frontOf L (p + v.len) - (beamOf L p + 1)) (w0 := w2)
    (fun l J Jx W hW hJ _ hY h0 => beneath1_but (8 - 1) (by decide) HR.out H ⟨g, 0, none⟩ L.js.length v HV.out p p0 p1 (frontOf L (p + v.len)) f1 f2 F3.out F4.out l (w1.heap.size + 1 + 1) w2.heap.size (w1.heap.size + 1) w1.heap.size (by omega) (by omega) J Jx
      (fun s A B hs hb => hJ s A B none hs (grown_of_below hb) (fun r e => by cases e)) hY W (by omega) hW.size (C2.out.below hW (by omega)) (W2.out.below hW (by omega)) (P2.out.below hW (by omega)) (L2.out.below (hW.mono (by omega))) h0)
    butK_t (butK_b (Nat.le_refl _)) (Below.refl _ _) (fun _ => rfl)
    (fun pre W => (Bk W (w1.heap.size + 1) 3 #[.int .i64 (accV v.clear (devsN L v p (pre.map (fun x => x.1))))] ∧ ∀ r ∈ devsN L v p (pre.map (fun x => x.1)), noB v.clear r.1 r.2 = false) ∧ But (w1.heap.size + 1) w2.heap.size w2 W)
    (fun c pre W => (c = .ret ∧ clrV v.clear (devsN L v p (benN L v p)) = 0 ∧ Bk W (w.heap.size + 1 + 1 + 1) 3 #[.int .i64 0] ∧ Bk W (w.heap.size + 1 + 1 + 1 + 1) 31 #[.int .i64 0]) ∧ Below w.heap.size w W)
    (OwnFrom.and (fun s A B row hs hg hr => ⟨hs.1.kept hg (fun r e => (hr r e).2), hs.2⟩) (ownFrom_but (Nat.le_refl _) (Nat.le_refl _)))
    (fun c => OwnFrom.and (Own.from (fun s A B row hs hg hr => ⟨hs.1, hs.2.1, hs.2.2.1.kept hg hr, hs.2.2.2.kept hg hr⟩) _) (ownFrom_below (Nat.le_refl _) (by omega)))
    ⟨⟨N2.out, by simp [devsN]⟩, But.refl _ _ _⟩
    (fun x => { tmps := #[(.agg #[.string L.name, .slice H.j.A L.js.length H.j.c, .slice H.b.A L.bs.length H.b.c, .slice H.s.A L.ss.length H.s.c]), (.agg #[.int .i64 v.len, .int .i64 v.clear, .int .i64 v.step]), .int .i64 p, .pointer (some ⟨w.heap.size, 0, none⟩), .pointer (some ⟨w.heap.size + 1, 0, none⟩), .pointer (some ⟨w.heap.size + 1 + 1, 0, none⟩), .pointer (some ⟨w.heap.size + 1 + 1 + 1, 0, none⟩), .pointer (some ⟨w.heap.size + 1 + 1 + 1 + 1, 0, none⟩), .pointer (some ⟨w1.heap.size, 0, none⟩), .int .i64 0, .pointer (some ⟨w1.heap.size + 1, 0, none⟩), .int .i64 (x.1 : Int), undef,
      .tuple #[.agg #[.string L.name, .slice H.j.A L.js.length H.j.c, .slice H.b.A L.bs.length H.b.c, .slice H.s.A L.ss.length H.s.c, .slice (some ⟨g, 0, none⟩) L.js.length L.js.length], .int .i64 0], (.agg #[.string L.name, .slice H.j.A L.js.length H.j.c, .slice H.b.A L.bs.length H.b.c, .slice H.s.A L.ss.length H.s.c]), (.agg #[.int .i64 v.len, .int .i64 v.clear, .int .i64 v.step]), .int .i64 p, .tuple #[.agg #[.string L.name, .slice H.j.A L.js.length H.j.c, .slice H.b.A L.bs.length H.b.c, .slice H.s.A L.ss.length H.s.c, .slice (some ⟨g, 0, none⟩) L.js.length L.js.length], .int .i64 0], .agg #[.string L.name, .slice H.j.A L.js.length H.j.c, .slice H.b.A L.bs.length H.b.c, .slice H.s.A L.ss.length H.s.c, .slice (some ⟨g, 0, none⟩) L.js.length L.js.length], .int .i64 0, .int .i64 0, .bool false, undef, .agg #[.string L.name, .slice H.j.A L.js.length H.j.c, .slice H.b.A L.bs.length H.b.c, .slice H.s.A L.ss.length H.s.c, .slice (some ⟨g, 0, none⟩) L.js.length L.js.length], (.agg #[.int .i64 v.len, .int .i64 v.clear, .int .i64 v.step]), .int .i64 p,
      .func (.func 136) #[] #[.pointer (some ⟨w1.heap.size + 1 + 1, 0, none⟩), .pointer (some ⟨w1.heap.size + 1 + 1 + 1 + 1, 0, none⟩), .pointer (some ⟨w1.heap.size + 1 + 1 + 1, 0, none⟩)], .int .i64 (x.1 : Int), undef, undef, undef, undef, undef, undef, undef, undef, undef, undef, undef, undef, undef, undef, undef, undef, undef, undef, undef, undef, undef, undef, undef], defers := [] }) ?assign ?body ?done ?stop
  case assign =>
    intro l x W K hK
    gi_wp2
    exact hK
  case body =>
    rintro l pre ⟨x, hx1, hx2⟩ W ⟨⟨hac, hno⟩, hB⟩ hlen
    have hmp : (pre ++ [(⟨x, hx1, hx2⟩ : Ben (beamOf L p) (frontOf L (p + v.len)))]).map (fun x => x.1) = pre.map (fun x => x.1) ++ [x] := by simp
    obtain ⟨xs, hxs⟩ : ∃ xs, pre.map (fun x => x.1) = xs := ⟨_, rfl⟩
    rw [hxs] at hac hno hmp
    have HMP := Lib.hid hmp
    obtain ⟨c0, c1, c2, c3, c4⟩ := (X2.out.but hB (by omega) (by omega)).five
    obtain ⟨v0, v1, v2⟩ := (V2.out.but hB (by omega) (by omega)).three
    obtain ⟨a0, a1⟩ := (A2.out.but hB (by omega) (by omega)).one
    have hd : 1 ≤ 8 - 1 - 1 := by decide
    have VW := Lib.hid (V2.out.but hB (by omega) (by omega))
    have RW := Lib.hid (R2.out.but hB (by omega) (by omega))
    have EW := Lib.hid (E2.out.but hB (by omega) (by omega))
    have AW := Lib.hid ((LA.out.below (hB.low (by omega) (by omega))).more (show w.heap.size ≤ W.heap.size by have := hB.size; omega))
    have LW := Lib.hid ((L2.out.below (hB.low (by omega) (by omega))).more (show w1.heap.size ≤ W.heap.size by have := hB.size; omega))
    have NW := Lib.hid hac
    have HNO := Lib.hid hno
    have HW := Lib.hid hB
    have BW := Lib.hid (B1.out.trans (hB.low (m := w.heap.size) (by omega) (by omega)))
    have hsz := hB.size
    have hxj : x < L.js.length := by have := HR.out.jb; omega
    have h2 := F3.out x hx1 hx2
    have h1 : p ≤ placeL L.bs x := by
      by_cases hxe : x < L.bs.length
      · have := (beamOf_at HR.out p0).2.2 x hx1 hxe; omega
      · omega
    have hT : p + v.len ≤ placeL L.bs L.bs.length := by omega
    have h3 : placeL L.bs x ≤ p + v.len := by omega
    clear hac hno hB hxs hlen hmp
    obtain ⟨lo, hlo⟩ : ∃ r, devLo L v p x = r := ⟨_, rfl⟩
    obtain ⟨hi, hhi⟩ : ∃ r, devHi L v p x = r := ⟨_, rfl⟩
    have HDV := Lib.hid (deviation_at HR.out H ⟨g, 0, none⟩ L.js.length v HV.out p x p0 hT hxj h1 h3 _ AW.out LW.out)
    have HIN : Hid ((lo, hi) ∈ devsN L v p (benN L v p)) := Lib.hid (by rw [← hlo, ← hhi]; exact devsN_mem (benN_mem (⟨x, hx1, hx2⟩ : Ben _ _)))
    have HSN : Hid (devsN L v p (xs ++ [x]) = devsN L v p xs ++ [(lo, hi)]) := Lib.hid (by rw [devsN_snoc, hlo, hhi])
    rw [hlo, hhi] at HDV
    clear hlo hhi h1 h2 h3
    by_cases g1 : hi < -v.clear
    · have HZ := Lib.hid (clrV_no (c := v.clear) HIN.out (by simp [noB, g1]))
      gi_wp2_with (refine ⟨trivial, ?_⟩; gi_at_call 113; refine (CallsIn.inRound l (callsIn_wide.2 HDV.out)).mono ?_; rintro e w3 ⟨rfl, hb3⟩; have HB3 := Lib.hid hb3; have D3 := Lib.hid (Bk.new w3 54 #[.int .i64 lo, .int .i64 hi]); have V3 := Lib.hid ((VW.out.call hb3).alloc (.cells #[.int .i64 lo, .int .i64 hi] 54)); have R3 := Lib.hid ((RW.out.call hb3).alloc (.cells #[.int .i64 lo, .int .i64 hi] 54)); have E3 := Lib.hid ((EW.out.call hb3).alloc (.cells #[.int .i64 lo, .int .i64 hi] 54)); have z3 := hb3.size; clear hb3 v0 v1 v2; obtain ⟨r0, r1⟩ := R3.out.one; obtain ⟨e0, e1⟩ := E3.out.one; obtain ⟨v0, v1, v2⟩ := V3.out.three; obtain ⟨d0, d1, _, _⟩ := D3.out.two)
      exact ⟨((keeps_of_below HB3.out).trans (keeps_of_below ((Below.refl _ w3).alloc (Nat.le_refl _) _))).trans ((KeepsOthers.setCell _ _ _).trans (KeepsOthers.setCell _ _ _)), ⟨rfl, HZ.out, (R3.out.put 0 _).far (by simp) _, (E3.out.far (by simp) _).put 0 _⟩, (((Below.step BW.out HB3.out).alloc (by have := (Below.step BW.out HB3.out).size; omega) _).setCell (by simp; omega) _).setCell (by simp; omega) _⟩
    · by_cases g2 : v.clear < lo
      · have HZ := Lib.hid (clrV_no (c := v.clear) HIN.out (by simp [noB, g2]))
        gi_wp2_with (refine ⟨trivial, ?_⟩; gi_at_call 113; refine (CallsIn.inRound l (callsIn_wide.2 HDV.out)).mono ?_; rintro e w3 ⟨rfl, hb3⟩; have HB3 := Lib.hid hb3; have D3 := Lib.hid (Bk.new w3 54 #[.int .i64 lo, .int .i64 hi]); have V3 := Lib.hid ((VW.out.call hb3).alloc (.cells #[.int .i64 lo, .int .i64 hi] 54)); have R3 := Lib.hid ((RW.out.call hb3).alloc (.cells #[.int .i64 lo, .int .i64 hi] 54)); have E3 := Lib.hid ((EW.out.call hb3).alloc (.cells #[.int .i64 lo, .int .i64 hi] 54)); have z3 := hb3.size; clear hb3 v0 v1 v2; obtain ⟨r0, r1⟩ := R3.out.one; obtain ⟨e0, e1⟩ := E3.out.one; obtain ⟨v0, v1, v2⟩ := V3.out.three; obtain ⟨d0, d1, _, _⟩ := D3.out.two)
        exact ⟨((keeps_of_below HB3.out).trans (keeps_of_below ((Below.refl _ w3).alloc (Nat.le_refl _) _))).trans ((KeepsOthers.setCell _ _ _).trans (KeepsOthers.setCell _ _ _)), ⟨rfl, HZ.out, (R3.out.put 0 _).far (by simp) _, (E3.out.far (by simp) _).put 0 _⟩, (((Below.step BW.out HB3.out).alloc (by have := (Below.step BW.out HB3.out).size; omega) _).setCell (by simp; omega) _).setCell (by simp; omega) _⟩
      · have HNB : Hid (noB v.clear lo hi = false) := Lib.hid (by simp [noB, g1, g2])
        have HN2 : Hid (∀ r ∈ devsN L v p (xs ++ [x]), noB v.clear r.1 r.2 = false) := Lib.hid (fun r hr => by
          rw [HSN.out] at hr
          rcases List.mem_append.1 hr with h | h
          · exact HNO.out r h
          · simp at h; subst h; exact HNB.out)
        have HAC := Lib.hid (accV_snoc v.clear (devsN L v p xs) (lo, hi))
        cases hin : insB v.clear lo hi with
        | true =>
          have HI := Lib.hid hin
          clear hin
          gi_wp2_with (first | (refine ⟨trivial, ?_⟩; gi_at_call 113; refine (CallsIn.inRound l (callsIn_wide.2 HDV.out)).mono ?_; rintro e w3 ⟨rfl, hb3⟩; have HB3 := Lib.hid hb3; have D3 := Lib.hid (Bk.new w3 54 #[.int .i64 lo, .int .i64 hi]); have V3 := Lib.hid ((VW.out.call hb3).alloc (.cells #[.int .i64 lo, .int .i64 hi] 54)); have N3 := Lib.hid ((NW.out.call hb3).alloc (.cells #[.int .i64 lo, .int .i64 hi] 54)); have z3 := hb3.size; clear hb3 v0 v1 v2; obtain ⟨v0, v1, v2⟩ := V3.out.three; obtain ⟨d0, d1, _, _⟩ := D3.out.two) | (refine ⟨trivial, ?_⟩; gi_at_call 116; refine (CallsIn.inRound l (callsIn_wide.2 (isClear_any v ⟨vc0, vc1⟩ lo hi _))).mono ?_; rintro e w4 ⟨rfl, hb4⟩; rw [HI.out]; have HB4 := Lib.hid hb4; have N4 := Lib.hid (N3.out.call hb4); have z4 := hb4.size; clear hb4))
          have k4 := (((Below.refl _ w3).alloc (Nat.le_refl _) (.cells #[.int .i64 lo, .int .i64 hi] 54)).trans (HB4.out.mono (by simp)))
          have kk := Below.step HB3.out k4
          refine ⟨keeps_of_below kk, but_of (kk.mono (by omega)) _, ⟨?_, by rw [HMP.out]; exact HN2.out⟩, HW.out.step kk (by omega)⟩
          rw [HMP.out, HSN.out, HAC.out, if_pos HI.out]
          exact N4.out
        | false =>
          have HI := Lib.hid hin
          clear hin
          gi_wp2_with (first | (refine ⟨trivial, ?_⟩; gi_at_call 113; refine (CallsIn.inRound l (callsIn_wide.2 HDV.out)).mono ?_; rintro e w3 ⟨rfl, hb3⟩; have HB3 := Lib.hid hb3; have D3 := Lib.hid (Bk.new w3 54 #[.int .i64 lo, .int .i64 hi]); have V3 := Lib.hid ((VW.out.call hb3).alloc (.cells #[.int .i64 lo, .int .i64 hi] 54)); have N3 := Lib.hid ((NW.out.call hb3).alloc (.cells #[.int .i64 lo, .int .i64 hi] 54)); have z3 := hb3.size; clear hb3 v0 v1 v2; obtain ⟨v0, v1, v2⟩ := V3.out.three; obtain ⟨d0, d1, _, _⟩ := D3.out.two) | (refine ⟨trivial, ?_⟩; gi_at_call 116; refine (CallsIn.inRound l (callsIn_wide.2 (isClear_any v ⟨vc0, vc1⟩ lo hi _))).mono ?_; rintro e w4 ⟨rfl, hb4⟩; rw [HI.out]; have HB4 := Lib.hid hb4; have N4 := Lib.hid (N3.out.call hb4); obtain ⟨n0, n1⟩ := N4.out.one; have z4 := hb4.size; clear hb4))
          have k4 := (((Below.refl _ w3).alloc (Nat.le_refl _) (.cells #[.int .i64 lo, .int .i64 hi] 54)).trans (HB4.out.mono (by simp)))
          have kk := Below.step HB3.out k4
          refine ⟨(keeps_of_below kk).trans (KeepsOthers.setCell _ _ _), (but_of (kk.mono (by omega)) _).setCell (by simp) _, ⟨?_, by rw [HMP.out]; exact HN2.out⟩, (HW.out.step kk (by omega)).setCell (by simp) _⟩
          rw [HMP.out, HSN.out, HAC.out, if_neg (by rw [HI.out]; decide)]
          exact N4.out.put 0 _
  case done =>
    rintro D ys W hD rfl ⟨⟨hac, hno⟩, hB⟩ hK
    rw [jsB_map _ _ _ (Nat.le_refl _)] at hac hno
    have hcl : clrV v.clear (devsN L v p (benN L v p)) = accV v.clear (devsN L v p (jsTo (beamOf L p) (frontOf L (p + v.len)))) := clrV_acc hno
    obtain ⟨ac, hae⟩ : ∃ ac, accV v.clear (devsN L v p (jsTo (beamOf L p) (frontOf L (p + v.len)))) = ac := ⟨_, rfl⟩
    rw [hae] at hac hcl
    have HCL := Lib.hid hcl
    have R3 := Lib.hid (R2.out.but hB (by omega) (by omega))
    have E3 := Lib.hid (E2.out.but hB (by omega) (by omega))
    obtain ⟨r0, r1⟩ := R3.out.one
    obtain ⟨e0, e1⟩ := E3.out.one
    obtain ⟨n0, n1⟩ := hac.one
    have HW := Lib.hid hB
    have BW := Lib.hid (B1.out.trans (hB.low (m := w.heap.size) (by omega) (by omega)))
    clear hno hB hac hcl hae
    gi_wp2
    have ks := ((KeepsOthers.setCell W ⟨w.heap.size + 1 + 1 + 1, 0, none⟩ (.int .i64 ac)).trans (KeepsOthers.setCell _ ⟨w.heap.size + 1 + 1 + 1 + 1, 0, none⟩ (.int .i64 0)))
    have q1 := (R3.out.put 0 (.int .i64 ac)).far (p := ⟨w.heap.size + 1 + 1 + 1 + 1, 0, none⟩) (by simp) (.int .i64 0)
    have q2 := (E3.out.far (p := ⟨w.heap.size + 1 + 1 + 1, 0, none⟩) (by simp) (.int .i64 ac)).put 0 (.int .i64 0)
    have bl := (BW.out.setCell (p := ⟨w.heap.size + 1 + 1 + 1, 0, none⟩) (by simp; omega) (.int .i64 ac)).setCell (p := ⟨w.heap.size + 1 + 1 + 1 + 1, 0, none⟩) (by simp; omega) (.int .i64 0)
    have hK' := ks.same D _ hK rfl
    generalize (W.setCell ⟨w.heap.size + 1 + 1 + 1, 0, none⟩ (.int .i64 ac)).setCell ⟨w.heap.size + 1 + 1 + 1 + 1, 0, none⟩ (.int .i64 0) = W5 at *
    refine ⟨by simp, .inl ⟨_, _, rfl, run_takeDeferred hK', ?_⟩⟩
    obtain ⟨u0, _⟩ := (Bk.kept q1 (grownBy_putObj' W5 D (.deferred none)) (fun r e => by cases e; exact ⟨_, hK', rfl⟩)).one
    obtain ⟨u2, _⟩ := (Bk.kept q2 (grownBy_putObj' W5 D (.deferred none)) (fun r e => by cases e; exact ⟨_, hK', rfl⟩)).one
    refine ⟨.tuple #[.int .i64 ac, .int .i64 0], ?_, by rw [HCL.out], bl.trans (belowK_b (w := w) (Nat.le_refl _) _ D _ _ (by omega) hK' rfl rfl)⟩
    simp [results, Try.f61, go_sem, u0, u2]
  case stop =>
    rintro D c pre W hD hpre ⟨⟨rfl, hz, hr3, he3⟩, hB⟩ hK
    have HZ := Lib.hid hz
    have R3 := Lib.hid hr3
    have E3 := Lib.hid he3
    clear hr3 he3 hz
    gi_wp2
    refine ⟨by simp, .inl ⟨_, _, rfl, run_takeDeferred hK, ?_⟩⟩
    obtain ⟨u0, _⟩ := (Bk.kept R3.out (grownBy_putObj' W D (.deferred none)) (fun r e => by cases e; exact ⟨_, hK, rfl⟩)).one
    obtain ⟨u2, _⟩ := (Bk.kept E3.out (grownBy_putObj' W D (.deferred none)) (fun r e => by cases e; exact ⟨_, hK, rfl⟩)).one
    refine ⟨.tuple #[.int .i64 0, .int .i64 0], ?_, by rw [HZ.out], hB.trans (belowK_b (w := w) (Nat.le_refl _) W D _ _ (by omega) hK rfl rfl)⟩
    simp [results, Try.f61, go_sem, u0, u2]
end Go.Proofs.Ytmnlgeglmkdecaa
