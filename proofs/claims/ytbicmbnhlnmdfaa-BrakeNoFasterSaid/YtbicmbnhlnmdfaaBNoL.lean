
/-
  The walk of BrakeNoFaster.
-/
import Derived.Test.YtbicmbnhlnmdfaaBKit
import Derived.Test.YtbicmbnhlnmdfaaBNoK
import Derived.Test.YtbicmbnhlnmdfaaBErr
namespace Go.Proofs.Ytbicmbnhlnmdfaa
open Go.RowKit
theorem list_cell4 {w : World} {B : Nat} {a : Addr} {n k : Nat} {f : Nat → Int} (h : Lies w B (some a) (ic (listF n f))) (hk : k < n) : w.cell? (a.add k) = some (.int .i64 (f k)) := by
  obtain ⟨b, e, _, c⟩ := h.num (listF_at hk)
  injection e with e
  subst e
  exact c
theorem add_zero5 (a : Addr) : a.add 0 = a := by simp [Addr.add]

set_option maxHeartbeats 8000000 in
set_option maxRecDepth 100000 in
theorem nf_long (s : ByteArray) (hs : s.size ≤ maxLen) (ps : List Bp) (A : Option Addr) (c : Nat) (hg : HdOk ⟨A, c⟩) (hl : ps.length ≤ maxLen) (b : Bs) (e0 e1 mr : Int) (rl : List Int) (R : Option Addr) (cr : Nat) (hgr : HdOk ⟨R, cr⟩) (hlr : rl.length ≤ maxLen) (hsh : shortB s ps = false) (w : World) (hA : Lies w w.heap.size A (ps.flatMap pc)) (hR : Lies w w.heap.size R (ic rl)) : Calls Try.prog 6 #[.agg #[.string s, .slice A ps.length c], .agg #[.int .i64 b.brk, .int .i64 b.drag, .int .i64 b.drv], .agg #[.int .i64 e0, .int .i64 e1, .slice R rl.length cr, .int .i64 mr]] w fun e w' => e = .returned (.bool true) ∧ Below w.heap.size w w' := by
  obtain ⟨NR, hNR⟩ : ∃ n, rl.length = n := ⟨_, rfl⟩
  have HNR := Lib.hid hNR
  rw [hNR]
  have hlr2 := hlr
  unfold maxLen at hlr2
  rw [hNR] at hlr2
  clear hNR hlr
  have F0 := Lib.hid (Fr.b3 w 24 #[.string s, .slice A ps.length c] 26 #[.int .i64 b.brk, .int .i64 b.drag, .int .i64 b.drv] 66 #[.int .i64 e0, .int .i64 e1, .slice R NR cr, .int .i64 mr])
  have HA := Lib.hid hA
  have HG := Lib.hid hg
  have HLR := Lib.hid hR
  have HGR := Lib.hid hgr
  clear hA hg hR hgr
  have HSH := Lib.hid hsh
  clear hsh
  go_enter Try.func6, Try.ntmps6
  go_wp2_with fail
  refine (awake_any _).mono ?_
  rintro e w1 ⟨rfl, hb1⟩
  have G1 := Fr.call F0.out hb1
  obtain ⟨k0_0, k0_1, kf0, kg0⟩ := (G1.get 2 rfl).two
  have kz0 := (G1.get 2 rfl).lt
  obtain ⟨k1_0, k1_1, k1_2⟩ := (G1.get 1 rfl).three
  have kz1 := (G1.get 1 rfl).lt
  obtain ⟨k2_0, k2_1, k2_2, k2_3⟩ := (G1.get 0 rfl).four
  have kz2 := (G1.get 0 rfl).lt
  have F1 : Hid (Fr w _ [(w.heap.size + 1 + 1, 66, #[.int .i64 e0, .int .i64 e1, .slice R NR cr, .int .i64 mr]), (w.heap.size + 1, 26, #[.int .i64 b.brk, .int .i64 b.drag, .int .i64 b.drv]), (w.heap.size, 24, #[.string s, .slice A ps.length c])]) := Lib.hid G1
  clear hb1 G1 F0
  go_wp2_with fail
  refine (Short_any s hs ps A c hl _).mono ?_
  rintro e w2 ⟨rfl, hb2⟩
  rw [HSH.out]
  clear k0_0 k0_1 kf0 kg0 kz0 k1_0 k1_1 k1_2 kz1 k2_0 k2_1 k2_2 k2_3 kz2
  have G2 := Fr.call F1.out hb2
  obtain ⟨k0_0, k0_1, kf0, kg0⟩ := (G2.get 2 rfl).two
  have kz0 := (G2.get 2 rfl).lt
  obtain ⟨k1_0, k1_1, k1_2⟩ := (G2.get 1 rfl).three
  have kz1 := (G2.get 1 rfl).lt
  obtain ⟨k2_0, k2_1, k2_2, k2_3⟩ := (G2.get 0 rfl).four
  have kz2 := (G2.get 0 rfl).lt
  have F2 : Hid (Fr w _ [(w.heap.size + 1 + 1, 66, #[.int .i64 e0, .int .i64 e1, .slice R NR cr, .int .i64 mr]), (w.heap.size + 1, 26, #[.int .i64 b.brk, .int .i64 b.drag, .int .i64 b.drv]), (w.heap.size, 24, #[.string s, .slice A ps.length c])]) := Lib.hid G2
  clear hb2 G2 F1
  go_wp2_with fail
  go_ret
  exact ⟨rfl, F2.out.bl⟩

set_option maxHeartbeats 8000000 in
set_option maxRecDepth 100000 in
theorem nf_bad0 (s : ByteArray) (hs : s.size ≤ maxLen) (ps : List Bp) (A : Option Addr) (c : Nat) (hg : HdOk ⟨A, c⟩) (hl : ps.length ≤ maxLen) (b : Bs) (e0 e1 mr : Int) (rl : List Int) (R : Option Addr) (cr : Nat) (hgr : HdOk ⟨R, cr⟩) (hlr : rl.length ≤ maxLen) (hsh : shortB s ps = true) (h0 : bothE s ps b ≠ 0) (w : World) (hA : Lies w w.heap.size A (ps.flatMap pc)) (hR : Lies w w.heap.size R (ic rl)) : Calls Try.prog 6 #[.agg #[.string s, .slice A ps.length c], .agg #[.int .i64 b.brk, .int .i64 b.drag, .int .i64 b.drv], .agg #[.int .i64 e0, .int .i64 e1, .slice R rl.length cr, .int .i64 mr]] w fun e w' => e = .returned (.bool true) ∧ Below w.heap.size w w' := by
  obtain ⟨NR, hNR⟩ : ∃ n, rl.length = n := ⟨_, rfl⟩
  have HNR := Lib.hid hNR
  rw [hNR]
  have hlr2 := hlr
  unfold maxLen at hlr2
  rw [hNR] at hlr2
  clear hNR hlr
  have F0 := Lib.hid (Fr.b3 w 24 #[.string s, .slice A ps.length c] 26 #[.int .i64 b.brk, .int .i64 b.drag, .int .i64 b.drv] 66 #[.int .i64 e0, .int .i64 e1, .slice R NR cr, .int .i64 mr])
  have HA := Lib.hid hA
  have HG := Lib.hid hg
  have HLR := Lib.hid hR
  have HGR := Lib.hid hgr
  clear hA hg hR hgr
  have HSH := Lib.hid hsh
  have hl14 : ps.length ≤ 14 := (short_iff.1 hsh).2
  clear hsh
  obtain ⟨er, her⟩ : ∃ er, bothE s ps b = er := ⟨_, rfl⟩
  have HE := Lib.hid her
  rw [her] at h0
  have gn : (er != 0) = true := by simp [h0]
  clear her
  go_enter Try.func6, Try.ntmps6
  go_wp2_with fail
  refine (awake_any _).mono ?_
  rintro e w1 ⟨rfl, hb1⟩
  have G1 := Fr.call F0.out hb1
  obtain ⟨k0_0, k0_1, kf0, kg0⟩ := (G1.get 2 rfl).two
  have kz0 := (G1.get 2 rfl).lt
  obtain ⟨k1_0, k1_1, k1_2⟩ := (G1.get 1 rfl).three
  have kz1 := (G1.get 1 rfl).lt
  obtain ⟨k2_0, k2_1, k2_2, k2_3⟩ := (G1.get 0 rfl).four
  have kz2 := (G1.get 0 rfl).lt
  have F1 : Hid (Fr w _ [(w.heap.size + 1 + 1, 66, #[.int .i64 e0, .int .i64 e1, .slice R NR cr, .int .i64 mr]), (w.heap.size + 1, 26, #[.int .i64 b.brk, .int .i64 b.drag, .int .i64 b.drv]), (w.heap.size, 24, #[.string s, .slice A ps.length c])]) := Lib.hid G1
  clear hb1 G1 F0
  go_wp2_with fail
  refine (Short_any s hs ps A c hl _).mono ?_
  rintro e w2 ⟨rfl, hb2⟩
  rw [HSH.out]
  clear k0_0 k0_1 kf0 kg0 kz0 k1_0 k1_1 k1_2 kz1 k2_0 k2_1 k2_2 k2_3 kz2
  have G2 := Fr.call F1.out hb2
  obtain ⟨k0_0, k0_1, kf0, kg0⟩ := (G2.get 2 rfl).two
  have kz0 := (G2.get 2 rfl).lt
  obtain ⟨k1_0, k1_1, k1_2⟩ := (G2.get 1 rfl).three
  have kz1 := (G2.get 1 rfl).lt
  obtain ⟨k2_0, k2_1, k2_2, k2_3⟩ := (G2.get 0 rfl).four
  have kz2 := (G2.get 0 rfl).lt
  have F2 : Hid (Fr w _ [(w.heap.size + 1 + 1, 66, #[.int .i64 e0, .int .i64 e1, .slice R NR cr, .int .i64 mr]), (w.heap.size + 1, 26, #[.int .i64 b.brk, .int .i64 b.drag, .int .i64 b.drv]), (w.heap.size, 24, #[.string s, .slice A ps.length c])]) := Lib.hid G2
  clear hb2 G2 F1
  go_wp2_with fail
  refine (BothErr_any s hs ps A c hl b _ (Fr.lies HA.out F2.out)).mono ?_
  rintro e w3 ⟨rfl, hb3⟩
  rw [HE.out]
  clear k0_0 k0_1 kf0 kg0 kz0 k1_0 k1_1 k1_2 kz1 k2_0 k2_1 k2_2 k2_3 kz2
  have G3 := Fr.call F2.out hb3
  obtain ⟨k0_0, k0_1, kf0, kg0⟩ := (G3.get 2 rfl).two
  have kz0 := (G3.get 2 rfl).lt
  obtain ⟨k1_0, k1_1, k1_2⟩ := (G3.get 1 rfl).three
  have kz1 := (G3.get 1 rfl).lt
  obtain ⟨k2_0, k2_1, k2_2, k2_3⟩ := (G3.get 0 rfl).four
  have kz2 := (G3.get 0 rfl).lt
  have F3 : Hid (Fr w _ [(w.heap.size + 1 + 1, 66, #[.int .i64 e0, .int .i64 e1, .slice R NR cr, .int .i64 mr]), (w.heap.size + 1, 26, #[.int .i64 b.brk, .int .i64 b.drag, .int .i64 b.drv]), (w.heap.size, 24, #[.string s, .slice A ps.length c])]) := Lib.hid G3
  clear hb3 G3 F2
  go_wp2_with fail
  go_ret
  exact ⟨rfl, F3.out.bl⟩

set_option maxHeartbeats 8000000 in
set_option maxRecDepth 100000 in
theorem nf_bad1 (s : ByteArray) (hs : s.size ≤ maxLen) (ps : List Bp) (A : Option Addr) (c : Nat) (hg : HdOk ⟨A, c⟩) (hl : ps.length ≤ maxLen) (b : Bs) (e0 e1 mr : Int) (rl : List Int) (R : Option Addr) (cr : Nat) (hgr : HdOk ⟨R, cr⟩) (hlr : rl.length ≤ maxLen) (hsh : shortB s ps = true) (h0 : bothE s ps b = 0) (h1 : sqE [e0, e1] ≠ 0) (w : World) (hA : Lies w w.heap.size A (ps.flatMap pc)) (hR : Lies w w.heap.size R (ic rl)) : Calls Try.prog 6 #[.agg #[.string s, .slice A ps.length c], .agg #[.int .i64 b.brk, .int .i64 b.drag, .int .i64 b.drv], .agg #[.int .i64 e0, .int .i64 e1, .slice R rl.length cr, .int .i64 mr]] w fun e w' => e = .returned (.bool true) ∧ Below w.heap.size w w' := by
  obtain ⟨u0, hu0⟩ : ∃ u, inB e0 0 20000000000 = u := ⟨_, rfl⟩
  obtain ⟨u1, hu1⟩ : ∃ u, inB e1 0 20000000000 = u := ⟨_, rfl⟩
  have HU : Hid (u0 = true → u1 = true → False) := Lib.hid (fun a b => h1 (sqE_two.2 ⟨inB_iff.1 (hu0.trans a), inB_iff.1 (hu1.trans b)⟩))
  obtain ⟨NR, hNR⟩ : ∃ n, rl.length = n := ⟨_, rfl⟩
  have HNR := Lib.hid hNR
  rw [hNR]
  have hlr2 := hlr
  unfold maxLen at hlr2
  rw [hNR] at hlr2
  clear hNR hlr
  have F0 := Lib.hid (Fr.b3 w 24 #[.string s, .slice A ps.length c] 26 #[.int .i64 b.brk, .int .i64 b.drag, .int .i64 b.drv] 66 #[.int .i64 e0, .int .i64 e1, .slice R NR cr, .int .i64 mr])
  have HA := Lib.hid hA
  have HG := Lib.hid hg
  have HLR := Lib.hid hR
  have HGR := Lib.hid hgr
  clear hA hg hR hgr
  have HSH := Lib.hid hsh
  have hl14 : ps.length ≤ 14 := (short_iff.1 hsh).2
  clear hsh
  have HE := Lib.hid h0
  have HU0 := Lib.hid hu0
  have HU1 := Lib.hid hu1
  clear h0 h1 hu0 hu1
  go_enter Try.func6, Try.ntmps6
  go_wp2_with fail
  refine (awake_any _).mono ?_
  rintro e w1 ⟨rfl, hb1⟩
  have G1 := Fr.call F0.out hb1
  obtain ⟨k0_0, k0_1, kf0, kg0⟩ := (G1.get 2 rfl).two
  have kz0 := (G1.get 2 rfl).lt
  obtain ⟨k1_0, k1_1, k1_2⟩ := (G1.get 1 rfl).three
  have kz1 := (G1.get 1 rfl).lt
  obtain ⟨k2_0, k2_1, k2_2, k2_3⟩ := (G1.get 0 rfl).four
  have kz2 := (G1.get 0 rfl).lt
  have F1 : Hid (Fr w _ [(w.heap.size + 1 + 1, 66, #[.int .i64 e0, .int .i64 e1, .slice R NR cr, .int .i64 mr]), (w.heap.size + 1, 26, #[.int .i64 b.brk, .int .i64 b.drag, .int .i64 b.drv]), (w.heap.size, 24, #[.string s, .slice A ps.length c])]) := Lib.hid G1
  clear hb1 G1 F0
  go_wp2_with fail
  refine (Short_any s hs ps A c hl _).mono ?_
  rintro e w2 ⟨rfl, hb2⟩
  rw [HSH.out]
  clear k0_0 k0_1 kf0 kg0 kz0 k1_0 k1_1 k1_2 kz1 k2_0 k2_1 k2_2 k2_3 kz2
  have G2 := Fr.call F1.out hb2
  obtain ⟨k0_0, k0_1, kf0, kg0⟩ := (G2.get 2 rfl).two
  have kz0 := (G2.get 2 rfl).lt
  obtain ⟨k1_0, k1_1, k1_2⟩ := (G2.get 1 rfl).three
  have kz1 := (G2.get 1 rfl).lt
  obtain ⟨k2_0, k2_1, k2_2, k2_3⟩ := (G2.get 0 rfl).four
  have kz2 := (G2.get 0 rfl).lt
  have F2 : Hid (Fr w _ [(w.heap.size + 1 + 1, 66, #[.int .i64 e0, .int .i64 e1, .slice R NR cr, .int .i64 mr]), (w.heap.size + 1, 26, #[.int .i64 b.brk, .int .i64 b.drag, .int .i64 b.drv]), (w.heap.size, 24, #[.string s, .slice A ps.length c])]) := Lib.hid G2
  clear hb2 G2 F1
  go_wp2_with fail
  refine (BothErr_any s hs ps A c hl b _ (Fr.lies HA.out F2.out)).mono ?_
  rintro e w3 ⟨rfl, hb3⟩
  rw [HE.out]
  clear k0_0 k0_1 kf0 kg0 kz0 k1_0 k1_1 k1_2 kz1 k2_0 k2_1 k2_2 k2_3 kz2
  have G3 := Fr.call F2.out hb3
  obtain ⟨k0_0, k0_1, kf0, kg0⟩ := (G3.get 2 rfl).two
  have kz0 := (G3.get 2 rfl).lt
  obtain ⟨k1_0, k1_1, k1_2⟩ := (G3.get 1 rfl).three
  have kz1 := (G3.get 1 rfl).lt
  obtain ⟨k2_0, k2_1, k2_2, k2_3⟩ := (G3.get 0 rfl).four
  have kz2 := (G3.get 0 rfl).lt
  have F3 : Hid (Fr w _ [(w.heap.size + 1 + 1, 66, #[.int .i64 e0, .int .i64 e1, .slice R NR cr, .int .i64 mr]), (w.heap.size + 1, 26, #[.int .i64 b.brk, .int .i64 b.drag, .int .i64 b.drv]), (w.heap.size, 24, #[.string s, .slice A ps.length c])]) := Lib.hid G3
  clear hb3 G3 F2
  cases u0 with
  | false =>
    go_wp2_with (go_at_call 16; refine (Within_any _ _ _ _).mono ?_; rintro e w' ⟨rfl, rfl⟩; (first | rw [HU0.out] | rw [HU1.out]))
    go_ret
    exact ⟨rfl, F3.out.bl⟩
  | true =>
    cases u1 with
    | false =>
      go_wp2_with (go_at_call 16; refine (Within_any _ _ _ _).mono ?_; rintro e w' ⟨rfl, rfl⟩; (first | rw [HU0.out] | rw [HU1.out]))
      go_ret
      exact ⟨rfl, F3.out.bl⟩
    | true => exact (HU.out rfl rfl).elim

set_option maxHeartbeats 8000000 in
set_option maxRecDepth 100000 in
theorem nf_big (s : ByteArray) (hs : s.size ≤ maxLen) (ps : List Bp) (A : Option Addr) (c : Nat) (hg : HdOk ⟨A, c⟩) (hl : ps.length ≤ maxLen) (b : Bs) (e0 e1 mr : Int) (rl : List Int) (R : Option Addr) (cr : Nat) (hgr : HdOk ⟨R, cr⟩) (hlr : rl.length ≤ maxLen) (hsh : shortB s ps = true) (h0 : bothE s ps b = 0) (h1 : sqE [e0, e1] = 0) (h16 : 16 < rl.length) (w : World) (hA : Lies w w.heap.size A (ps.flatMap pc)) (hR : Lies w w.heap.size R (ic rl)) : Calls Try.prog 6 #[.agg #[.string s, .slice A ps.length c], .agg #[.int .i64 b.brk, .int .i64 b.drag, .int .i64 b.drv], .agg #[.int .i64 e0, .int .i64 e1, .slice R rl.length cr, .int .i64 mr]] w fun e w' => e = .returned (.bool true) ∧ Below w.heap.size w w' := by
  obtain ⟨he0, he1⟩ := sqE_two.1 h1
  have HU0 := Lib.hid (inB_iff.2 he0)
  have HU1 := Lib.hid (inB_iff.2 he1)
  obtain ⟨NR, hNR⟩ : ∃ n, rl.length = n := ⟨_, rfl⟩
  have HNR := Lib.hid hNR
  rw [hNR]
  have hlr2 := hlr
  unfold maxLen at hlr2
  rw [hNR] at hlr2
  rw [hNR] at h16
  have h16i : (16 : Int) < (NR : Int) := by omega
  clear hNR hlr
  have F0 := Lib.hid (Fr.b3 w 24 #[.string s, .slice A ps.length c] 26 #[.int .i64 b.brk, .int .i64 b.drag, .int .i64 b.drv] 66 #[.int .i64 e0, .int .i64 e1, .slice R NR cr, .int .i64 mr])
  have HA := Lib.hid hA
  have HG := Lib.hid hg
  have HLR := Lib.hid hR
  have HGR := Lib.hid hgr
  clear hA hg hR hgr
  have HSH := Lib.hid hsh
  have hl14 : ps.length ≤ 14 := (short_iff.1 hsh).2
  clear hsh
  have HE := Lib.hid h0
  clear h0 h1 he0 he1
  go_enter Try.func6, Try.ntmps6
  go_wp2_with fail
  refine (awake_any _).mono ?_
  rintro e w1 ⟨rfl, hb1⟩
  have G1 := Fr.call F0.out hb1
  obtain ⟨k0_0, k0_1, kf0, kg0⟩ := (G1.get 2 rfl).two
  have kz0 := (G1.get 2 rfl).lt
  obtain ⟨k1_0, k1_1, k1_2⟩ := (G1.get 1 rfl).three
  have kz1 := (G1.get 1 rfl).lt
  obtain ⟨k2_0, k2_1, k2_2, k2_3⟩ := (G1.get 0 rfl).four
  have kz2 := (G1.get 0 rfl).lt
  have F1 : Hid (Fr w _ [(w.heap.size + 1 + 1, 66, #[.int .i64 e0, .int .i64 e1, .slice R NR cr, .int .i64 mr]), (w.heap.size + 1, 26, #[.int .i64 b.brk, .int .i64 b.drag, .int .i64 b.drv]), (w.heap.size, 24, #[.string s, .slice A ps.length c])]) := Lib.hid G1
  clear hb1 G1 F0
  go_wp2_with fail
  refine (Short_any s hs ps A c hl _).mono ?_
  rintro e w2 ⟨rfl, hb2⟩
  rw [HSH.out]
  clear k0_0 k0_1 kf0 kg0 kz0 k1_0 k1_1 k1_2 kz1 k2_0 k2_1 k2_2 k2_3 kz2
  have G2 := Fr.call F1.out hb2
  obtain ⟨k0_0, k0_1, kf0, kg0⟩ := (G2.get 2 rfl).two
  have kz0 := (G2.get 2 rfl).lt
  obtain ⟨k1_0, k1_1, k1_2⟩ := (G2.get 1 rfl).three
  have kz1 := (G2.get 1 rfl).lt
  obtain ⟨k2_0, k2_1, k2_2, k2_3⟩ := (G2.get 0 rfl).four
  have kz2 := (G2.get 0 rfl).lt
  have F2 : Hid (Fr w _ [(w.heap.size + 1 + 1, 66, #[.int .i64 e0, .int .i64 e1, .slice R NR cr, .int .i64 mr]), (w.heap.size + 1, 26, #[.int .i64 b.brk, .int .i64 b.drag, .int .i64 b.drv]), (w.heap.size, 24, #[.string s, .slice A ps.length c])]) := Lib.hid G2
  clear hb2 G2 F1
  go_wp2_with fail
  refine (BothErr_any s hs ps A c hl b _ (Fr.lies HA.out F2.out)).mono ?_
  rintro e w3 ⟨rfl, hb3⟩
  rw [HE.out]
  clear k0_0 k0_1 kf0 kg0 kz0 k1_0 k1_1 k1_2 kz1 k2_0 k2_1 k2_2 k2_3 kz2
  have G3 := Fr.call F2.out hb3
  obtain ⟨k0_0, k0_1, kf0, kg0⟩ := (G3.get 2 rfl).two
  have kz0 := (G3.get 2 rfl).lt
  obtain ⟨k1_0, k1_1, k1_2⟩ := (G3.get 1 rfl).three
  have kz1 := (G3.get 1 rfl).lt
  obtain ⟨k2_0, k2_1, k2_2, k2_3⟩ := (G3.get 0 rfl).four
  have kz2 := (G3.get 0 rfl).lt
  have F3 : Hid (Fr w _ [(w.heap.size + 1 + 1, 66, #[.int .i64 e0, .int .i64 e1, .slice R NR cr, .int .i64 mr]), (w.heap.size + 1, 26, #[.int .i64 b.brk, .int .i64 b.drag, .int .i64 b.drv]), (w.heap.size, 24, #[.string s, .slice A ps.length c])]) := Lib.hid G3
  clear hb3 G3 F2
  go_wp2_with (go_at_call 16; refine (Within_any _ _ _ _).mono ?_; rintro e w' ⟨rfl, rfl⟩; (first | rw [HU0.out] | rw [HU1.out]))
  go_ret
  exact ⟨rfl, F3.out.bl⟩

set_option maxHeartbeats 8000000 in
set_option maxRecDepth 100000 in
theorem nf_no (s : ByteArray) (hs : s.size ≤ maxLen) (ps : List Bp) (A : Option Addr) (c : Nat) (hg : HdOk ⟨A, c⟩) (hl : ps.length ≤ maxLen) (b : Bs) (e0 e1 mr : Int) (rl : List Int) (R : Option Addr) (cr : Nat) (hgr : HdOk ⟨R, cr⟩) (hlr : rl.length ≤ maxLen) (hsh : shortB s ps = true) (h0 : bothE s ps b = 0) (h1 : sqE [e0, e1] = 0) (h16 : rl.length ≤ 16) (hf : fasB ps b e0 e1 = false) (w : World) (hA : Lies w w.heap.size A (ps.flatMap pc)) (hR : Lies w w.heap.size R (ic rl)) : Calls Try.prog 6 #[.agg #[.string s, .slice A ps.length c], .agg #[.int .i64 b.brk, .int .i64 b.drag, .int .i64 b.drv], .agg #[.int .i64 e0, .int .i64 e1, .slice R rl.length cr, .int .i64 mr]] w fun e w' => e = .returned (.bool true) ∧ Below w.heap.size w w' := by
  obtain ⟨hok, hb⟩ := bothE_zero h0
  have hsb : sE b = 0 := sE_of hb
  obtain ⟨he0, he1⟩ := sqE_two.1 h1
  obtain ⟨a, rfl⟩ := ps_some hA hok.n0
  have HU0 := Lib.hid (inB_iff.2 he0)
  have HU1 := Lib.hid (inB_iff.2 he1)
  obtain ⟨kk, ff, hck, hff⟩ := ck_known s hs ps b hok hb hsb rl hlr
  obtain ⟨N, hN⟩ : ∃ N, N = ps.length + 1 := ⟨_, rfl⟩
  have HFA : Hid (∀ (A' : Option Addr) (c' : Nat) (W : World), Lies W W.heap.size A' (ps.flatMap pc) → Calls Try.prog 21 #[.agg #[.string s, .slice A' ps.length c'], .agg #[.int .i64 b.brk, .int .i64 b.drag, .int .i64 b.drv], .agg #[.int .i64 e0, .int .i64 e1]] W fun e w' => ∃ g : Hd, e = .returned (.tuple #[.slice g.A 0 g.c, .int .i64 12]) ∧ Below W.heap.size W w') := Lib.hid (fun A' c' W h => by have := Fastest_any s hs ps A' c' (by have := (short_iff.1 hsh).2; omega) b e0 e1 W h; unfold fasE at this; rw [if_neg (by simpa using h0), if_neg (by simpa using h1), hf] at this; rw [if_neg (by simp)] at this; exact this.mono fun _ _ h => rowE_bad (by decide) h)
  have HOK := Lib.hid hok
  have HB := Lib.hid hb
  have HF := Lib.hid hf
  have HFF := Lib.hid hff
  have HE0 := Lib.hid he0
  have HE1 := Lib.hid he1
  have HNN := Lib.hid hN
  have h12 := hok.n12
  have hn0 := hok.n0
  obtain ⟨NR, hNR⟩ : ∃ n, rl.length = n := ⟨_, rfl⟩
  have HNR := Lib.hid hNR
  rw [hNR]
  have hlr2 := hlr
  unfold maxLen at hlr2
  rw [hNR] at hlr2
  have HCI : Hid (∀ W : World, Lies W W.heap.size R (ic rl) → Calls Try.prog 25 #[.slice R NR cr] W fun e w' => ∃ g : Hd, e = .returned (.slice g.A NR g.c) ∧ Lies w' w'.heap.size g.A (ic rl) ∧ HdOk g ∧ (∀ a, g.A = some a → W.heap.size ≤ a.block) ∧ Below W.heap.size W w') := Lib.hid (fun W h => by have := CopyInts_any rl ⟨R, cr⟩ (by omega) hgr W h; unfold CopiedI at this; rw [hNR] at this; exact this)
  rw [hNR] at h16 hck
  have HCK := Lib.hid hck
  have h16i : ¬ (16 : Int) < (NR : Int) := by omega
  clear hNR hlr
  have F0 := Lib.hid (Fr.b3 w 24 #[.string s, .slice (some a) ps.length c] 26 #[.int .i64 b.brk, .int .i64 b.drag, .int .i64 b.drv] 66 #[.int .i64 e0, .int .i64 e1, .slice R NR cr, .int .i64 mr])
  have HA := Lib.hid hA
  have HG := Lib.hid hg
  have HLR := Lib.hid hR
  have HGR := Lib.hid hgr
  clear hA hg hR hgr
  have HSH := Lib.hid hsh
  have hl14 : ps.length ≤ 14 := (short_iff.1 hsh).2
  clear hsh
  have HE := Lib.hid h0
  have hw1 := IntWalk.i64_in ((ps.length : Int) + 1) (by omega)
  clear h0 h1 he0 he1 hck hff hf hok hb hsb hN
  go_enter Try.func6, Try.ntmps6
  go_wp2_with fail
  refine (awake_any _).mono ?_
  rintro e w1 ⟨rfl, hb1⟩
  have G1 := Fr.call F0.out hb1
  obtain ⟨k0_0, k0_1, kf0, kg0⟩ := (G1.get 2 rfl).two
  have kz0 := (G1.get 2 rfl).lt
  obtain ⟨k1_0, k1_1, k1_2⟩ := (G1.get 1 rfl).three
  have kz1 := (G1.get 1 rfl).lt
  obtain ⟨k2_0, k2_1, k2_2, k2_3⟩ := (G1.get 0 rfl).four
  have kz2 := (G1.get 0 rfl).lt
  have F1 : Hid (Fr w _ [(w.heap.size + 1 + 1, 66, #[.int .i64 e0, .int .i64 e1, .slice R NR cr, .int .i64 mr]), (w.heap.size + 1, 26, #[.int .i64 b.brk, .int .i64 b.drag, .int .i64 b.drv]), (w.heap.size, 24, #[.string s, .slice (some a) ps.length c])]) := Lib.hid G1
  clear hb1 G1 F0
  go_wp2_with fail
  refine (Short_any s hs ps (some a) c hl _).mono ?_
  rintro e w2 ⟨rfl, hb2⟩
  rw [HSH.out]
  clear k0_0 k0_1 kf0 kg0 kz0 k1_0 k1_1 k1_2 kz1 k2_0 k2_1 k2_2 k2_3 kz2
  have G2 := Fr.call F1.out hb2
  obtain ⟨k0_0, k0_1, kf0, kg0⟩ := (G2.get 2 rfl).two
  have kz0 := (G2.get 2 rfl).lt
  obtain ⟨k1_0, k1_1, k1_2⟩ := (G2.get 1 rfl).three
  have kz1 := (G2.get 1 rfl).lt
  obtain ⟨k2_0, k2_1, k2_2, k2_3⟩ := (G2.get 0 rfl).four
  have kz2 := (G2.get 0 rfl).lt
  have F2 : Hid (Fr w _ [(w.heap.size + 1 + 1, 66, #[.int .i64 e0, .int .i64 e1, .slice R NR cr, .int .i64 mr]), (w.heap.size + 1, 26, #[.int .i64 b.brk, .int .i64 b.drag, .int .i64 b.drv]), (w.heap.size, 24, #[.string s, .slice (some a) ps.length c])]) := Lib.hid G2
  clear hb2 G2 F1
  go_wp2_with fail
  refine (BothErr_any s hs ps (some a) c hl b _ (Fr.lies HA.out F2.out)).mono ?_
  rintro e w3 ⟨rfl, hb3⟩
  rw [HE.out]
  clear k0_0 k0_1 kf0 kg0 kz0 k1_0 k1_1 k1_2 kz1 k2_0 k2_1 k2_2 k2_3 kz2
  have G3 := Fr.call F2.out hb3
  obtain ⟨k0_0, k0_1, kf0, kg0⟩ := (G3.get 2 rfl).two
  have kz0 := (G3.get 2 rfl).lt
  obtain ⟨k1_0, k1_1, k1_2⟩ := (G3.get 1 rfl).three
  have kz1 := (G3.get 1 rfl).lt
  obtain ⟨k2_0, k2_1, k2_2, k2_3⟩ := (G3.get 0 rfl).four
  have kz2 := (G3.get 0 rfl).lt
  have F3 : Hid (Fr w _ [(w.heap.size + 1 + 1, 66, #[.int .i64 e0, .int .i64 e1, .slice R NR cr, .int .i64 mr]), (w.heap.size + 1, 26, #[.int .i64 b.brk, .int .i64 b.drag, .int .i64 b.drv]), (w.heap.size, 24, #[.string s, .slice (some a) ps.length c])]) := Lib.hid G3
  clear hb3 G3 F2
  go_wp2_with (go_at_call 16; refine (Within_any _ _ _ _).mono ?_; rintro e w' ⟨rfl, rfl⟩; (first | rw [HU0.out] | rw [HU1.out]))
  go_upto_region 6 with fail
  clear k0_0 k0_1 kf0 kg0 kz0 k1_0 k1_1 k1_2 kz1 k2_0 k2_1 k2_2 k2_3 kz2
  go_cut [8, 9] from 57 to 65 (fun r e W => (∃ g : Hd, r = .slice g.A 0 g.c ∧ e = .int .i64 12) ∧ Fr w3 W [])
  case first =>
    have HALL : Hid (∀ W, Fr w3 W [] → Fr w3 W [] ∧ W.cell? ⟨w.heap.size, 0, none⟩ = some (.string s) ∧ W.cell? ⟨w.heap.size, 1, none⟩ = some (.slice (some a) ps.length c) ∧ W.cell? ⟨w.heap.size + 1, 0, none⟩ = some (.int .i64 b.brk) ∧ W.cell? ⟨w.heap.size + 1, 1, none⟩ = some (.int .i64 b.drag) ∧ W.cell? ⟨w.heap.size + 1, 2, none⟩ = some (.int .i64 b.drv) ∧ W.cell? ⟨w.heap.size + 1 + 1, 0, none⟩ = some (.int .i64 e0) ∧ W.cell? ⟨w.heap.size + 1 + 1, 1, none⟩ = some (.int .i64 e1) ∧ W.cell? ⟨w.heap.size + 1 + 1, 2, none⟩ = some (.slice R NR cr) ∧ W.cell? ⟨w.heap.size + 1 + 1, 3, none⟩ = some (.int .i64 mr)) := Lib.hid (fun W hW => ⟨hW, ((F3.out.get 2 rfl).call hW.bl).cell 0, ((F3.out.get 2 rfl).call hW.bl).cell 1, ((F3.out.get 1 rfl).call hW.bl).cell 0, ((F3.out.get 1 rfl).call hW.bl).cell 1, ((F3.out.get 1 rfl).call hW.bl).cell 2, ((F3.out.get 0 rfl).call hW.bl).cell 0, ((F3.out.get 0 rfl).call hW.bl).cell 1, ((F3.out.get 0 rfl).call hW.bl).cell 2, ((F3.out.get 0 rfl).call hW.bl).cell 3⟩)
    have HAC := Lib.hid (Fr.lies HA.out F3.out); have HRC := Lib.hid (Fr.lies HLR.out F3.out)
    have F10 : Fr w3 _ [] := Fr.nil w3
    go_region_held3 (fun W => Fr w3 W [] ∧ W.cell? ⟨w.heap.size, 0, none⟩ = some (.string s) ∧ W.cell? ⟨w.heap.size, 1, none⟩ = some (.slice (some a) ps.length c) ∧ W.cell? ⟨w.heap.size + 1, 0, none⟩ = some (.int .i64 b.brk) ∧ W.cell? ⟨w.heap.size + 1, 1, none⟩ = some (.int .i64 b.drag) ∧ W.cell? ⟨w.heap.size + 1, 2, none⟩ = some (.int .i64 b.drv) ∧ W.cell? ⟨w.heap.size + 1 + 1, 0, none⟩ = some (.int .i64 e0) ∧ W.cell? ⟨w.heap.size + 1 + 1, 1, none⟩ = some (.int .i64 e1) ∧ W.cell? ⟨w.heap.size + 1 + 1, 2, none⟩ = some (.slice R NR cr) ∧ W.cell? ⟨w.heap.size + 1 + 1, 3, none⟩ = some (.int .i64 mr))
        ((go_split_ands; refine HALL.out _ ?_; (first | assumption | (repeat (first | assumption | refine Fr.new ?_ _ | refine Fr.drew ?_ | (refine Fr.set ?_ (by first | exact Nat.le_refl _ | omega | (simp; done) | (simp; omega)) (by first | (simp; done) | (simp; omega)) _))); done)))
        ((first
          | (go_at_call 13; go_split_ands; (with_reducible refine (Copy_any s ps ⟨(some a), c⟩ (by omega) HG.out _ (Fr.lies HAC.out (by assumption))).mono ?_); rintro e w1 ⟨g2, rfl, hl2, hk2, hb1⟩; have HL2 := Lib.hid hl2; have F4 := Fr.call (by assumption) hb1; clear hb1 hl2 hk2)
          | (go_at_call 21; go_split_ands; (with_reducible refine (HFA.out _ _ _ HL2.out).mono ?_); rintro e w1 ⟨g3, rfl, hb1⟩; have F5 := Fr.call (by assumption) hb1; clear hb1)
          | fail "arm"))
    all_goals
      go_split_ands
      go_wp2_with fail
      go_meet
      exact ⟨⟨g3, rfl, rfl⟩, by assumption⟩
  case rest =>
    obtain ⟨wx1, rfl⟩ : ∃ W, W = wc := ⟨_, rfl⟩
    obtain ⟨⟨gx6, rfl, rfl⟩, hx⟩ := hcut
    have FC1 := Lib.hid (F3.out.call hx.bl)
    clear hx F3
    obtain ⟨k0_0, k0_1, kf0, kg0⟩ := (FC1.out.get 2 rfl).two
    have kz0 := (FC1.out.get 2 rfl).lt
    obtain ⟨k1_0, k1_1, k1_2⟩ := (FC1.out.get 1 rfl).three
    have kz1 := (FC1.out.get 1 rfl).lt
    obtain ⟨k2_0, k2_1, k2_2, k2_3⟩ := (FC1.out.get 0 rfl).four
    have kz2 := (FC1.out.get 0 rfl).lt
    go_upto_region 7 with fail
    clear k0_0 k0_1 kf0 kg0 kz0 k1_0 k1_1 k1_2 kz1 k2_0 k2_1 k2_2 k2_3 kz2
    go_cut [10, 11] from 66 to 75 (fun r e W => (r = .int .i64 kk ∧ e = .int .i64 ff) ∧ Fr wx1 W [])
    case first =>
      have HALL : Hid (∀ W, Fr wx1 W [] → Fr wx1 W [] ∧ W.cell? ⟨w.heap.size, 0, none⟩ = some (.string s) ∧ W.cell? ⟨w.heap.size, 1, none⟩ = some (.slice (some a) ps.length c) ∧ W.cell? ⟨w.heap.size + 1, 0, none⟩ = some (.int .i64 b.brk) ∧ W.cell? ⟨w.heap.size + 1, 1, none⟩ = some (.int .i64 b.drag) ∧ W.cell? ⟨w.heap.size + 1, 2, none⟩ = some (.int .i64 b.drv) ∧ W.cell? ⟨w.heap.size + 1 + 1, 0, none⟩ = some (.int .i64 e0) ∧ W.cell? ⟨w.heap.size + 1 + 1, 1, none⟩ = some (.int .i64 e1) ∧ W.cell? ⟨w.heap.size + 1 + 1, 2, none⟩ = some (.slice R NR cr) ∧ W.cell? ⟨w.heap.size + 1 + 1, 3, none⟩ = some (.int .i64 mr)) := Lib.hid (fun W hW => ⟨hW, ((FC1.out.get 2 rfl).call hW.bl).cell 0, ((FC1.out.get 2 rfl).call hW.bl).cell 1, ((FC1.out.get 1 rfl).call hW.bl).cell 0, ((FC1.out.get 1 rfl).call hW.bl).cell 1, ((FC1.out.get 1 rfl).call hW.bl).cell 2, ((FC1.out.get 0 rfl).call hW.bl).cell 0, ((FC1.out.get 0 rfl).call hW.bl).cell 1, ((FC1.out.get 0 rfl).call hW.bl).cell 2, ((FC1.out.get 0 rfl).call hW.bl).cell 3⟩)
      have HAC := Lib.hid (Fr.lies HA.out FC1.out); have HRC := Lib.hid (Fr.lies HLR.out FC1.out)
      have F10 : Fr wx1 _ [] := Fr.nil wx1
      go_region_held3 (fun W => Fr wx1 W [] ∧ W.cell? ⟨w.heap.size, 0, none⟩ = some (.string s) ∧ W.cell? ⟨w.heap.size, 1, none⟩ = some (.slice (some a) ps.length c) ∧ W.cell? ⟨w.heap.size + 1, 0, none⟩ = some (.int .i64 b.brk) ∧ W.cell? ⟨w.heap.size + 1, 1, none⟩ = some (.int .i64 b.drag) ∧ W.cell? ⟨w.heap.size + 1, 2, none⟩ = some (.int .i64 b.drv) ∧ W.cell? ⟨w.heap.size + 1 + 1, 0, none⟩ = some (.int .i64 e0) ∧ W.cell? ⟨w.heap.size + 1 + 1, 1, none⟩ = some (.int .i64 e1) ∧ W.cell? ⟨w.heap.size + 1 + 1, 2, none⟩ = some (.slice R NR cr) ∧ W.cell? ⟨w.heap.size + 1 + 1, 3, none⟩ = some (.int .i64 mr))
          ((go_split_ands; refine HALL.out _ ?_; (first | assumption | (repeat (first | assumption | refine Fr.new ?_ _ | refine Fr.drew ?_ | (refine Fr.set ?_ (by first | exact Nat.le_refl _ | omega | (simp; done) | (simp; omega)) (by first | (simp; done) | (simp; omega)) _))); done)))
          ((first
            | (go_at_call 13; go_split_ands; (with_reducible refine (Copy_any s ps ⟨(some a), c⟩ (by omega) HG.out _ (Fr.lies HAC.out (by assumption))).mono ?_); rintro e w1 ⟨g2, rfl, hl2, hk2, hb1⟩; have HL2 := Lib.hid hl2; have F4 := Fr.call (by assumption) hb1; clear hb1 hl2 hk2)
            | (go_at_call 25; go_split_ands; (with_reducible refine (HCI.out _ (Fr.lies HRC.out (by assumption))).mono ?_); rintro e w1 ⟨g4, rfl, hl4, hk4, _, hb1⟩; have HL4 := Lib.hid hl4; have F6 := Fr.call (by assumption) hb1; have HL2 := Lib.hid (Lies.call HL2.out hb1); clear hb1 hl4 hk4)
            | (go_at_call 24; go_split_ands; (with_reducible refine (HCK.out _ _ _ _ _ HL2.out HL4.out).mono ?_); rintro e w1 ⟨rfl, hb1⟩; have F5 := Fr.call (by assumption) hb1; clear hb1)
            | fail "arm"))
      all_goals
        go_split_ands
        go_wp2_with fail
        go_meet
        exact ⟨⟨rfl, rfl⟩, by assumption⟩
    case rest =>
      obtain ⟨wx2, rfl⟩ : ∃ W, W = wc := ⟨_, rfl⟩
      obtain ⟨⟨rfl, rfl⟩, hx⟩ := hcut
      have FC2 := Lib.hid (FC1.out.call hx.bl)
      clear hx FC1
      obtain ⟨k0_0, k0_1, kf0, kg0⟩ := (FC2.out.get 2 rfl).two
      have kz0 := (FC2.out.get 2 rfl).lt
      obtain ⟨k1_0, k1_1, k1_2⟩ := (FC2.out.get 1 rfl).three
      have kz1 := (FC2.out.get 1 rfl).lt
      obtain ⟨k2_0, k2_1, k2_2, k2_3⟩ := (FC2.out.get 0 rfl).four
      have kz2 := (FC2.out.get 0 rfl).lt
      have HRQ : Hid (ff = 0 → ∃ ar : Addr, R = some ar ∧ NR = ps.length + 1 ∧ ∀ k, k ≤ ps.length → ∀ W, Fr wx2 W [] → W.cell? (ar.add k) = some (.int .i64 (sqAt rl k))) := Lib.hid (fun h0 => by
        obtain ⟨_, h2, _⟩ := HFF.out h0
        have hln := sqs_len h2
        obtain ⟨ar, e, _, _⟩ := (Fr.lies HLR.out FC2.out).num (sqAt_get (k := 0) (by omega))
        refine ⟨ar, e, by rw [← HNR.out]; exact hln, fun k hk W hW => ?_⟩
        obtain ⟨a3, e3, _, h3⟩ := ((Fr.lies HLR.out FC2.out).call hW.bl).num (sqAt_get (k := k) (by omega))
        rw [e] at e3
        injection e3 with e3
        subst e3
        exact h3)
      obtain ⟨rv, hrv⟩ : ∃ rv : Bool, (decide (ff = 0) && (decide (sqAt rl 0 = e0) && decide (sqAt rl ps.length ≤ e1))) = rv := ⟨_, rfl⟩
      have HRV := Lib.hid hrv
      clear hrv
      go_upto_region 8 with fail
      go_cut [12] from 76 to 106 (fun r W => r = .bool rv ∧ Fr wx2 W [])
      case first =>
        by_cases hff0 : ff = 0
        · obtain ⟨ar, rfl, hnr, hcell⟩ := HRQ.out hff0
          have hnr2 : (NR : Int) = (ps.length : Int) + 1 := by omega
          have hnrb : ((NR : Int) == (ps.length : Int) + 1) = true := by rw [beq_iff_eq]; exact hnr2
          have r0 := hcell 0 (Nat.zero_le _) _ (Fr.nil wx2)
          rw [add_zero5] at r0
          have rn := hcell ps.length (Nat.le_refl _) _ (Fr.nil wx2)
          have hp1 : (ps.length : Int) < (NR : Int) := by omega
          have hp2 : (0 : Int) < (NR : Int) := by omega
          have HRV2 : Hid ((decide (sqAt rl 0 = e0) && decide (sqAt rl ps.length ≤ e1)) = rv) := Lib.hid (by have := HRV.out; rw [decide_eq_true hff0, Bool.true_and] at this; exact this)
          obtain ⟨x, hx⟩ : ∃ x, sqAt rl 0 = x := ⟨_, rfl⟩
          obtain ⟨y, hy⟩ : ∃ y, sqAt rl ps.length = y := ⟨_, rfl⟩
          rw [hx, hy] at HRV2
          rw [hx] at r0
          rw [hy] at rn
          have hfb : (ff == 0) = true := by simp [hff0]
          clear hcell hx hy
          by_cases hx0 : x = e0
          · have HR3 : Hid (decide (y ≤ e1) = rv) := Lib.hid (by have := HRV2.out; rw [decide_eq_true hx0, Bool.true_and] at this; exact this)
            have hxb : (x == e0) = true := by simp [hx0]
            have HX0 := Lib.hid hx0
            clear hnr hnr2 hff0 hx0
            go_quiet (fail)
            go_wp2_with fail
            go_meet
            exact ⟨by rw [← HR3.out], (Fr.nil _).call (below_drewN (Below.refl _ _) _)⟩
          · have HR3 : Hid (false = rv) := Lib.hid (by have := HRV2.out; rw [decide_eq_false hx0, Bool.false_and] at this; exact this)
            have hxb : (x == e0) = false := by simp [hx0]
            clear hnr hnr2 hff0
            go_quiet (fail)
            go_wp2_with fail
            go_meet
            exact ⟨by rw [← HR3.out], (Fr.nil _).call (below_drewN (Below.refl _ _) _)⟩
        · have HR3 : Hid (false = rv) := Lib.hid (by have := HRV.out; rw [decide_eq_false hff0, Bool.false_and] at this; exact this)
          have hfb : (ff == 0) = false := by simp [hff0]
          go_quiet (fail)
          go_wp2_with fail
          go_meet
          exact ⟨by rw [← HR3.out], (Fr.nil _).call (below_drewN (Below.refl _ _) _)⟩
      case rest =>
        obtain ⟨w8, rfl⟩ : ∃ W, W = wc := ⟨_, rfl⟩
        obtain ⟨rfl, hx8⟩ := hcut
        have F8 := Lib.hid (FC2.out.call hx8.bl)
        have HNR0 : Hid (rv = false) := Lib.hid (by
          cases hv : rv with
          | false => rfl
          | true =>
            have h := HRV.out
            rw [hv] at h
            simp only [Bool.and_eq_true, decide_eq_true_eq] at h
            obtain ⟨_, h2, h3⟩ := HFF.out h.1
            have := rival_fas h3 h.2.1 h.2.2 (fun k _ => (sqs_in h2 k).1)
            rw [HF.out] at this
            cases this)
        rw [HNR0.out]
        clear hx8
        go_wp2_with fail
        go_ret
        exact ⟨rfl, F8.out.bl⟩

set_option maxHeartbeats 8000000 in
set_option maxRecDepth 100000 in
theorem nf_yes (s : ByteArray) (hs : s.size ≤ maxLen) (ps : List Bp) (A : Option Addr) (c : Nat) (hg : HdOk ⟨A, c⟩) (hl : ps.length ≤ maxLen) (b : Bs) (e0 e1 mr : Int) (rl : List Int) (R : Option Addr) (cr : Nat) (hgr : HdOk ⟨R, cr⟩) (hlr : rl.length ≤ maxLen) (hsh : shortB s ps = true) (h0 : bothE s ps b = 0) (h1 : sqE [e0, e1] = 0) (h16 : rl.length ≤ 16) (hf : fasB ps b e0 e1 = true) (hmr : I64 mr) (w : World) (hA : Lies w w.heap.size A (ps.flatMap pc)) (hR : Lies w w.heap.size R (ic rl)) : Calls Try.prog 6 #[.agg #[.string s, .slice A ps.length c], .agg #[.int .i64 b.brk, .int .i64 b.drag, .int .i64 b.drv], .agg #[.int .i64 e0, .int .i64 e1, .slice R rl.length cr, .int .i64 mr]] w fun e w' => e = .returned (.bool true) ∧ Below w.heap.size w w' := by
  obtain ⟨hok, hb⟩ := bothE_zero h0
  have hsb : sE b = 0 := sE_of hb
  obtain ⟨he0, he1⟩ := sqE_two.1 h1
  obtain ⟨a, rfl⟩ := ps_some hA hok.n0
  have HU0 := Lib.hid (inB_iff.2 he0)
  have HU1 := Lib.hid (inB_iff.2 he1)
  obtain ⟨kk, ff, hck, hff⟩ := ck_known s hs ps b hok hb hsb rl hlr
  obtain ⟨N, hN⟩ : ∃ N, N = ps.length + 1 := ⟨_, rfl⟩
  have HFA : Hid (∀ (A' : Option Addr) (c' : Nat) (W : World), Lies W W.heap.size A' (ps.flatMap pc) → Calls Try.prog 21 #[.agg #[.string s, .slice A' ps.length c'], .agg #[.int .i64 b.brk, .int .i64 b.drag, .int .i64 b.drv], .agg #[.int .i64 e0, .int .i64 e1]] W fun e w' => ∃ g : Hd, e = .returned (.tuple #[.slice g.A N g.c, .int .i64 0]) ∧ Lies w' w'.heap.size g.A (ic (listF N (fwV ps b e0 e1))) ∧ Below W.heap.size W w') := Lib.hid (fun A' c' W h => by have := Fastest_any s hs ps A' c' (by have := (short_iff.1 hsh).2; omega) b e0 e1 W h; unfold fasE at this; rw [if_neg (by simpa using h0), if_neg (by simpa using h1), hf] at this; rw [if_pos rfl, ← hN] at this; exact this.mono fun _ _ h => rowE_ok h)
  have HOK := Lib.hid hok
  have HB := Lib.hid hb
  have HF := Lib.hid hf
  have HFF := Lib.hid hff
  have HE0 := Lib.hid he0
  have HE1 := Lib.hid he1
  have HNN := Lib.hid hN
  have h12 := hok.n12
  have hn0 := hok.n0
  have HFE := Lib.hid (fast_err hok.each he0 hf)
  have HC2 : Hid (∀ (A' : Option Addr) (c' : Nat) (B' : Option Addr) (d' : Nat) (W : World), Lies W W.heap.size A' (ps.flatMap pc) → Lies W W.heap.size B' (ic (listF N (fwV ps b e0 e1))) → Calls Try.prog 24 #[.agg #[.string s, .slice A' ps.length c'], .agg #[.int .i64 b.brk, .int .i64 b.drag, .int .i64 b.drv], .slice B' N d'] W fun e w' => e = .returned (.tuple #[.int .i64 0, .int .i64 0]) ∧ Below W.heap.size W w') := Lib.hid (fun A' c' B' d' W hA hB => by
    obtain ⟨a', rfl⟩ := ps_some hA hok.n0
    have := CheckSquares_ok s hs ps a' c' (by have := hok.n12; omega) b (listF N (fwV ps b e0 e1)) B' d' (by rw [listF_len]; unfold maxLen; have := hok.n12; omega) hok hb hsb (by rw [hN]; exact HFE.out) (by rw [hN]; exact fast_runs hok.each hb hf) W hA hB
    rw [listF_len] at this
    exact this)
  have HCI2 : Hid (∀ (a6 : Addr) (c6 : Nat) (W : World), Lies W W.heap.size (some a6) (ic (listF N (fwV ps b e0 e1))) → Calls Try.prog 25 #[.slice (some a6) N c6] W fun e w' => ∃ g : Hd, e = .returned (.slice g.A N g.c) ∧ Lies w' w'.heap.size g.A (ic (listF N (fwV ps b e0 e1))) ∧ HdOk g ∧ (∀ a, g.A = some a → W.heap.size ≤ a.block) ∧ Below W.heap.size W w') := Lib.hid (fun a6 c6 W h => by
    have := CopyInts_any (listF N (fwV ps b e0 e1)) ⟨some a6, c6⟩ (by rw [listF_len]; have := hok.n12; omega) (fun h => by cases h) W h
    unfold CopiedI at this
    rw [listF_len] at this
    exact this)
  have HSQ : Hid (∀ (a6 : Addr) (c6 : Nat) (W : World), Lies W W.heap.size (some a6) (ic (listF N (fwV ps b e0 e1))) → Calls Try.prog 26 #[.agg #[.string s, .slice (some a) ps.length c], .slice (some a6) N c6] W fun e w' => e = .returned (.int .i64 0) ∧ Below W.heap.size W w') := Lib.hid (fun a6 c6 W h => by
    have := SquaresErr_any s ps (some a) c (by have := hok.n12; omega) (listF N (fwV ps b e0 e1)) (some a6) c6 (by rw [listF_len]; unfold maxLen; have := hok.n12; omega) W h
    rw [listF_len, show sqsE ps (listF N (fwV ps b e0 e1)) = 0 by rw [hN]; exact HFE.out] at this
    exact this)
  have HEND := Lib.hid (fast_end hf)
  obtain ⟨lo1, hi1, er1, ht1, ht1k⟩ := tm_known s hs ps hok (listF N (fwV ps b e0 e1)) (by rw [listF_len]; unfold maxLen; have := hok.n12; omega) (by rw [hN]; exact HFE.out)
  rw [listF_len] at ht1
  have HT1 := Lib.hid ht1
  have HT1K := Lib.hid ht1k
  have HSR : Hid (∀ h : sqsE ps rl = 0, ∃ lo2 hi2 er2 : Int, (∀ (A' : Option Addr) (c' : Nat) (B' : Option Addr) (d' : Nat) (W : World), Lies W W.heap.size A' (ps.flatMap pc) → Lies W W.heap.size B' (ic rl) → Calls Try.prog 27 #[.agg #[.string s, .slice A' ps.length c'], .slice B' rl.length d'] W fun e w' => e = .returned (.tuple #[.agg #[.int .i64 lo2, .int .i64 hi2], .int .i64 er2]) ∧ Below W.heap.size W w') ∧ ((er2 = 0 ∧ lo2 = tloV ps rl ps.length ∧ hi2 = thiV ps rl ps.length ∧ ∀ j, j < ps.length → zeroS rl j = false) ∨ (er2 = 11 ∧ ∃ j, j < ps.length ∧ zeroS rl j = true))) := Lib.hid (fun h => tm_known s hs ps hok rl hlr h)
  obtain ⟨rm, rm0, rm1, hmod⟩ := Mod_known mr 100000 hmr (by omega)
  have HMOD := Lib.hid hmod
  obtain ⟨v, hv0⟩ : ∃ v, e1 + rm = v := ⟨_, rfl⟩
  have hwv := (IntWalk.i64_in (e1 + rm) (by omega)).trans hv0
  obtain ⟨e2, he2⟩ : ∃ e2, min 20000000000 v = e2 := ⟨_, rfl⟩
  have HE2 := Lib.hid he2
  have HEE : Hid (e1 ≤ e2) := Lib.hid (by omega)
  have hs2 : sqE [e0, e2] = 0 := sqE_two.2 ⟨he0, by omega⟩
  have HFB : Hid (∀ (A' : Option Addr) (c' : Nat) (W : World), Lies W W.heap.size A' (ps.flatMap pc) → Calls Try.prog 21 #[.agg #[.string s, .slice A' ps.length c'], .agg #[.int .i64 b.brk, .int .i64 b.drag, .int .i64 b.drv], .agg #[.int .i64 e0, .int .i64 e2]] W fun e w' => ∃ g : Hd, e = .returned (.tuple #[.slice g.A N g.c, .int .i64 0]) ∧ Lies w' w'.heap.size g.A (ic (listF N (fwV ps b e0 e2))) ∧ Below W.heap.size W w') := Lib.hid (fun A' c' W h => by have := Fastest_any s hs ps A' c' (by have := (short_iff.1 hsh).2; omega) b e0 e2 W h; unfold fasE at this; rw [if_neg (by simpa using h0), if_neg (by simpa using hs2), fas_mono HEE.out hf, if_pos rfl, ← hN] at this; exact this.mono fun _ _ h => rowE_ok h)
  clear ht1 ht1k hmod hv0 he2 hs2 rm0 rm1 hmr
  obtain ⟨NR, hNR⟩ : ∃ n, rl.length = n := ⟨_, rfl⟩
  have HNR := Lib.hid hNR
  rw [hNR]
  have hlr2 := hlr
  unfold maxLen at hlr2
  rw [hNR] at hlr2
  have HCI : Hid (∀ W : World, Lies W W.heap.size R (ic rl) → Calls Try.prog 25 #[.slice R NR cr] W fun e w' => ∃ g : Hd, e = .returned (.slice g.A NR g.c) ∧ Lies w' w'.heap.size g.A (ic rl) ∧ HdOk g ∧ (∀ a, g.A = some a → W.heap.size ≤ a.block) ∧ Below W.heap.size W w') := Lib.hid (fun W h => by have := CopyInts_any rl ⟨R, cr⟩ (by omega) hgr W h; unfold CopiedI at this; rw [hNR] at this; exact this)
  rw [hNR] at h16 hck
  have HCK := Lib.hid hck
  have h16i : ¬ (16 : Int) < (NR : Int) := by omega
  clear hNR hlr
  have F0 := Lib.hid (Fr.b3 w 24 #[.string s, .slice (some a) ps.length c] 26 #[.int .i64 b.brk, .int .i64 b.drag, .int .i64 b.drv] 66 #[.int .i64 e0, .int .i64 e1, .slice R NR cr, .int .i64 mr])
  have HA := Lib.hid hA
  have HG := Lib.hid hg
  have HLR := Lib.hid hR
  have HGR := Lib.hid hgr
  clear hA hg hR hgr
  have HSH := Lib.hid hsh
  have hl14 : ps.length ≤ 14 := (short_iff.1 hsh).2
  clear hsh
  have HE := Lib.hid h0
  have hw1 := IntWalk.i64_in ((ps.length : Int) + 1) (by omega)
  clear h0 h1 he0 he1 hck hff hf hok hb hsb hN
  go_enter Try.func6, Try.ntmps6
  go_wp2_with fail
  refine (awake_any _).mono ?_
  rintro e w1 ⟨rfl, hb1⟩
  have G1 := Fr.call F0.out hb1
  obtain ⟨k0_0, k0_1, kf0, kg0⟩ := (G1.get 2 rfl).two
  have kz0 := (G1.get 2 rfl).lt
  obtain ⟨k1_0, k1_1, k1_2⟩ := (G1.get 1 rfl).three
  have kz1 := (G1.get 1 rfl).lt
  obtain ⟨k2_0, k2_1, k2_2, k2_3⟩ := (G1.get 0 rfl).four
  have kz2 := (G1.get 0 rfl).lt
  have F1 : Hid (Fr w _ [(w.heap.size + 1 + 1, 66, #[.int .i64 e0, .int .i64 e1, .slice R NR cr, .int .i64 mr]), (w.heap.size + 1, 26, #[.int .i64 b.brk, .int .i64 b.drag, .int .i64 b.drv]), (w.heap.size, 24, #[.string s, .slice (some a) ps.length c])]) := Lib.hid G1
  clear hb1 G1 F0
  go_wp2_with fail
  refine (Short_any s hs ps (some a) c hl _).mono ?_
  rintro e w2 ⟨rfl, hb2⟩
  rw [HSH.out]
  clear k0_0 k0_1 kf0 kg0 kz0 k1_0 k1_1 k1_2 kz1 k2_0 k2_1 k2_2 k2_3 kz2
  have G2 := Fr.call F1.out hb2
  obtain ⟨k0_0, k0_1, kf0, kg0⟩ := (G2.get 2 rfl).two
  have kz0 := (G2.get 2 rfl).lt
  obtain ⟨k1_0, k1_1, k1_2⟩ := (G2.get 1 rfl).three
  have kz1 := (G2.get 1 rfl).lt
  obtain ⟨k2_0, k2_1, k2_2, k2_3⟩ := (G2.get 0 rfl).four
  have kz2 := (G2.get 0 rfl).lt
  have F2 : Hid (Fr w _ [(w.heap.size + 1 + 1, 66, #[.int .i64 e0, .int .i64 e1, .slice R NR cr, .int .i64 mr]), (w.heap.size + 1, 26, #[.int .i64 b.brk, .int .i64 b.drag, .int .i64 b.drv]), (w.heap.size, 24, #[.string s, .slice (some a) ps.length c])]) := Lib.hid G2
  clear hb2 G2 F1
  go_wp2_with fail
  refine (BothErr_any s hs ps (some a) c hl b _ (Fr.lies HA.out F2.out)).mono ?_
  rintro e w3 ⟨rfl, hb3⟩
  rw [HE.out]
  clear k0_0 k0_1 kf0 kg0 kz0 k1_0 k1_1 k1_2 kz1 k2_0 k2_1 k2_2 k2_3 kz2
  have G3 := Fr.call F2.out hb3
  obtain ⟨k0_0, k0_1, kf0, kg0⟩ := (G3.get 2 rfl).two
  have kz0 := (G3.get 2 rfl).lt
  obtain ⟨k1_0, k1_1, k1_2⟩ := (G3.get 1 rfl).three
  have kz1 := (G3.get 1 rfl).lt
  obtain ⟨k2_0, k2_1, k2_2, k2_3⟩ := (G3.get 0 rfl).four
  have kz2 := (G3.get 0 rfl).lt
  have F3 : Hid (Fr w _ [(w.heap.size + 1 + 1, 66, #[.int .i64 e0, .int .i64 e1, .slice R NR cr, .int .i64 mr]), (w.heap.size + 1, 26, #[.int .i64 b.brk, .int .i64 b.drag, .int .i64 b.drv]), (w.heap.size, 24, #[.string s, .slice (some a) ps.length c])]) := Lib.hid G3
  clear hb3 G3 F2
  go_wp2_with (go_at_call 16; refine (Within_any _ _ _ _).mono ?_; rintro e w' ⟨rfl, rfl⟩; (first | rw [HU0.out] | rw [HU1.out]))
  go_upto_region 6 with fail
  clear k0_0 k0_1 kf0 kg0 kz0 k1_0 k1_1 k1_2 kz1 k2_0 k2_1 k2_2 k2_3 kz2
  go_cut [8, 9] from 57 to 65 (fun r e W => (∃ g : Hd, r = .slice g.A (N : Nat) g.c ∧ e = .int .i64 0 ∧ Lies W W.heap.size g.A (ic (listF N (fwV ps b e0 e1)))) ∧ Fr w3 W [])
  case first =>
    have HALL : Hid (∀ W, Fr w3 W [] → Fr w3 W [] ∧ W.cell? ⟨w.heap.size, 0, none⟩ = some (.string s) ∧ W.cell? ⟨w.heap.size, 1, none⟩ = some (.slice (some a) ps.length c) ∧ W.cell? ⟨w.heap.size + 1, 0, none⟩ = some (.int .i64 b.brk) ∧ W.cell? ⟨w.heap.size + 1, 1, none⟩ = some (.int .i64 b.drag) ∧ W.cell? ⟨w.heap.size + 1, 2, none⟩ = some (.int .i64 b.drv) ∧ W.cell? ⟨w.heap.size + 1 + 1, 0, none⟩ = some (.int .i64 e0) ∧ W.cell? ⟨w.heap.size + 1 + 1, 1, none⟩ = some (.int .i64 e1) ∧ W.cell? ⟨w.heap.size + 1 + 1, 2, none⟩ = some (.slice R NR cr) ∧ W.cell? ⟨w.heap.size + 1 + 1, 3, none⟩ = some (.int .i64 mr)) := Lib.hid (fun W hW => ⟨hW, ((F3.out.get 2 rfl).call hW.bl).cell 0, ((F3.out.get 2 rfl).call hW.bl).cell 1, ((F3.out.get 1 rfl).call hW.bl).cell 0, ((F3.out.get 1 rfl).call hW.bl).cell 1, ((F3.out.get 1 rfl).call hW.bl).cell 2, ((F3.out.get 0 rfl).call hW.bl).cell 0, ((F3.out.get 0 rfl).call hW.bl).cell 1, ((F3.out.get 0 rfl).call hW.bl).cell 2, ((F3.out.get 0 rfl).call hW.bl).cell 3⟩)
    have HAC := Lib.hid (Fr.lies HA.out F3.out); have HRC := Lib.hid (Fr.lies HLR.out F3.out)
    have F10 : Fr w3 _ [] := Fr.nil w3
    go_region_held3 (fun W => Fr w3 W [] ∧ W.cell? ⟨w.heap.size, 0, none⟩ = some (.string s) ∧ W.cell? ⟨w.heap.size, 1, none⟩ = some (.slice (some a) ps.length c) ∧ W.cell? ⟨w.heap.size + 1, 0, none⟩ = some (.int .i64 b.brk) ∧ W.cell? ⟨w.heap.size + 1, 1, none⟩ = some (.int .i64 b.drag) ∧ W.cell? ⟨w.heap.size + 1, 2, none⟩ = some (.int .i64 b.drv) ∧ W.cell? ⟨w.heap.size + 1 + 1, 0, none⟩ = some (.int .i64 e0) ∧ W.cell? ⟨w.heap.size + 1 + 1, 1, none⟩ = some (.int .i64 e1) ∧ W.cell? ⟨w.heap.size + 1 + 1, 2, none⟩ = some (.slice R NR cr) ∧ W.cell? ⟨w.heap.size + 1 + 1, 3, none⟩ = some (.int .i64 mr))
        ((go_split_ands; refine HALL.out _ ?_; (first | assumption | (repeat (first | assumption | refine Fr.new ?_ _ | refine Fr.drew ?_ | (refine Fr.set ?_ (by first | exact Nat.le_refl _ | omega | (simp; done) | (simp; omega)) (by first | (simp; done) | (simp; omega)) _))); done)))
        ((first
          | (go_at_call 13; go_split_ands; (with_reducible refine (Copy_any s ps ⟨(some a), c⟩ (by omega) HG.out _ (Fr.lies HAC.out (by assumption))).mono ?_); rintro e w1 ⟨g2, rfl, hl2, hk2, hb1⟩; have HL2 := Lib.hid hl2; have F4 := Fr.call (by assumption) hb1; clear hb1 hl2 hk2)
          | (go_at_call 21; go_split_ands; (with_reducible refine (HFA.out _ _ _ HL2.out).mono ?_); rintro e w1 ⟨g3, rfl, hl3, hb1⟩; have HL3 := Lib.hid hl3; have F5 := Fr.call (by assumption) hb1; clear hb1 hl3)
          | fail "arm"))
    all_goals
      go_split_ands
      go_wp2_with fail
      go_meet
      exact ⟨⟨g3, rfl, rfl, HL3.out⟩, by assumption⟩
  case rest =>
    obtain ⟨wx3, rfl⟩ : ∃ W, W = wc := ⟨_, rfl⟩
    obtain ⟨⟨gx6, rfl, rfl, hy6⟩, hx⟩ := hcut
    have FC3 := Lib.hid (F3.out.call hx.bl)
    clear hx F3
    obtain ⟨k0_0, k0_1, kf0, kg0⟩ := (FC3.out.get 2 rfl).two
    have kz0 := (FC3.out.get 2 rfl).lt
    obtain ⟨k1_0, k1_1, k1_2⟩ := (FC3.out.get 1 rfl).three
    have kz1 := (FC3.out.get 1 rfl).lt
    obtain ⟨k2_0, k2_1, k2_2, k2_3⟩ := (FC3.out.get 0 rfl).four
    have kz2 := (FC3.out.get 0 rfl).lt
    have Y6 := Lib.hid hy6
    clear hy6
    go_upto_region 7 with fail
    clear k0_0 k0_1 kf0 kg0 kz0 k1_0 k1_1 k1_2 kz1 k2_0 k2_1 k2_2 k2_3 kz2
    go_cut [10, 11] from 66 to 75 (fun r e W => (r = .int .i64 kk ∧ e = .int .i64 ff) ∧ Fr wx3 W [])
    case first =>
      have HALL : Hid (∀ W, Fr wx3 W [] → Fr wx3 W [] ∧ W.cell? ⟨w.heap.size, 0, none⟩ = some (.string s) ∧ W.cell? ⟨w.heap.size, 1, none⟩ = some (.slice (some a) ps.length c) ∧ W.cell? ⟨w.heap.size + 1, 0, none⟩ = some (.int .i64 b.brk) ∧ W.cell? ⟨w.heap.size + 1, 1, none⟩ = some (.int .i64 b.drag) ∧ W.cell? ⟨w.heap.size + 1, 2, none⟩ = some (.int .i64 b.drv) ∧ W.cell? ⟨w.heap.size + 1 + 1, 0, none⟩ = some (.int .i64 e0) ∧ W.cell? ⟨w.heap.size + 1 + 1, 1, none⟩ = some (.int .i64 e1) ∧ W.cell? ⟨w.heap.size + 1 + 1, 2, none⟩ = some (.slice R NR cr) ∧ W.cell? ⟨w.heap.size + 1 + 1, 3, none⟩ = some (.int .i64 mr)) := Lib.hid (fun W hW => ⟨hW, ((FC3.out.get 2 rfl).call hW.bl).cell 0, ((FC3.out.get 2 rfl).call hW.bl).cell 1, ((FC3.out.get 1 rfl).call hW.bl).cell 0, ((FC3.out.get 1 rfl).call hW.bl).cell 1, ((FC3.out.get 1 rfl).call hW.bl).cell 2, ((FC3.out.get 0 rfl).call hW.bl).cell 0, ((FC3.out.get 0 rfl).call hW.bl).cell 1, ((FC3.out.get 0 rfl).call hW.bl).cell 2, ((FC3.out.get 0 rfl).call hW.bl).cell 3⟩)
      have HAC := Lib.hid (Fr.lies HA.out FC3.out); have HRC := Lib.hid (Fr.lies HLR.out FC3.out)
      have F10 : Fr wx3 _ [] := Fr.nil wx3
      go_region_held3 (fun W => Fr wx3 W [] ∧ W.cell? ⟨w.heap.size, 0, none⟩ = some (.string s) ∧ W.cell? ⟨w.heap.size, 1, none⟩ = some (.slice (some a) ps.length c) ∧ W.cell? ⟨w.heap.size + 1, 0, none⟩ = some (.int .i64 b.brk) ∧ W.cell? ⟨w.heap.size + 1, 1, none⟩ = some (.int .i64 b.drag) ∧ W.cell? ⟨w.heap.size + 1, 2, none⟩ = some (.int .i64 b.drv) ∧ W.cell? ⟨w.heap.size + 1 + 1, 0, none⟩ = some (.int .i64 e0) ∧ W.cell? ⟨w.heap.size + 1 + 1, 1, none⟩ = some (.int .i64 e1) ∧ W.cell? ⟨w.heap.size + 1 + 1, 2, none⟩ = some (.slice R NR cr) ∧ W.cell? ⟨w.heap.size + 1 + 1, 3, none⟩ = some (.int .i64 mr))
          ((go_split_ands; refine HALL.out _ ?_; (first | assumption | (repeat (first | assumption | refine Fr.new ?_ _ | refine Fr.drew ?_ | (refine Fr.set ?_ (by first | exact Nat.le_refl _ | omega | (simp; done) | (simp; omega)) (by first | (simp; done) | (simp; omega)) _))); done)))
          ((first
            | (go_at_call 13; go_split_ands; (with_reducible refine (Copy_any s ps ⟨(some a), c⟩ (by omega) HG.out _ (Fr.lies HAC.out (by assumption))).mono ?_); rintro e w1 ⟨g2, rfl, hl2, hk2, hb1⟩; have HL2 := Lib.hid hl2; have F4 := Fr.call (by assumption) hb1; clear hb1 hl2 hk2)
            | (go_at_call 25; go_split_ands; (with_reducible refine (HCI.out _ (Fr.lies HRC.out (by assumption))).mono ?_); rintro e w1 ⟨g4, rfl, hl4, hk4, _, hb1⟩; have HL4 := Lib.hid hl4; have F6 := Fr.call (by assumption) hb1; have HL2 := Lib.hid (Lies.call HL2.out hb1); clear hb1 hl4 hk4)
            | (go_at_call 24; go_split_ands; (with_reducible refine (HCK.out _ _ _ _ _ HL2.out HL4.out).mono ?_); rintro e w1 ⟨rfl, hb1⟩; have F5 := Fr.call (by assumption) hb1; clear hb1)
            | fail "arm"))
      all_goals
        go_split_ands
        go_wp2_with fail
        go_meet
        exact ⟨⟨rfl, rfl⟩, by assumption⟩
    case rest =>
      obtain ⟨wx4, rfl⟩ : ∃ W, W = wc := ⟨_, rfl⟩
      obtain ⟨⟨rfl, rfl⟩, hx⟩ := hcut
      have FC4 := Lib.hid (FC3.out.call hx.bl)
      have Y6 := Lib.hid (Lies.call Y6.out hx.bl)
      clear hx FC3
      obtain ⟨k0_0, k0_1, kf0, kg0⟩ := (FC4.out.get 2 rfl).two
      have kz0 := (FC4.out.get 2 rfl).lt
      obtain ⟨k1_0, k1_1, k1_2⟩ := (FC4.out.get 1 rfl).three
      have kz1 := (FC4.out.get 1 rfl).lt
      obtain ⟨k2_0, k2_1, k2_2, k2_3⟩ := (FC4.out.get 0 rfl).four
      have kz2 := (FC4.out.get 0 rfl).lt
      have HRQ : Hid (ff = 0 → ∃ ar : Addr, R = some ar ∧ NR = ps.length + 1 ∧ ∀ k, k ≤ ps.length → ∀ W, Fr wx4 W [] → W.cell? (ar.add k) = some (.int .i64 (sqAt rl k))) := Lib.hid (fun h0 => by
        obtain ⟨_, h2, _⟩ := HFF.out h0
        have hln := sqs_len h2
        obtain ⟨ar, e, _, _⟩ := (Fr.lies HLR.out FC4.out).num (sqAt_get (k := 0) (by omega))
        refine ⟨ar, e, by rw [← HNR.out]; exact hln, fun k hk W hW => ?_⟩
        obtain ⟨a3, e3, _, h3⟩ := ((Fr.lies HLR.out FC4.out).call hW.bl).num (sqAt_get (k := k) (by omega))
        rw [e] at e3
        injection e3 with e3
        subst e3
        exact h3)
      obtain ⟨rv, hrv⟩ : ∃ rv : Bool, (decide (ff = 0) && (decide (sqAt rl 0 = e0) && decide (sqAt rl ps.length ≤ e1))) = rv := ⟨_, rfl⟩
      have HRV := Lib.hid hrv
      clear hrv
      go_upto_region 8 with fail
      go_cut [12] from 76 to 106 (fun r W => r = .bool rv ∧ Fr wx4 W [])
      case first =>
        by_cases hff0 : ff = 0
        · obtain ⟨ar, rfl, hnr, hcell⟩ := HRQ.out hff0
          have hnr2 : (NR : Int) = (ps.length : Int) + 1 := by omega
          have hnrb : ((NR : Int) == (ps.length : Int) + 1) = true := by rw [beq_iff_eq]; exact hnr2
          have r0 := hcell 0 (Nat.zero_le _) _ (Fr.nil wx4)
          rw [add_zero5] at r0
          have rn := hcell ps.length (Nat.le_refl _) _ (Fr.nil wx4)
          have hp1 : (ps.length : Int) < (NR : Int) := by omega
          have hp2 : (0 : Int) < (NR : Int) := by omega
          have HRV2 : Hid ((decide (sqAt rl 0 = e0) && decide (sqAt rl ps.length ≤ e1)) = rv) := Lib.hid (by have := HRV.out; rw [decide_eq_true hff0, Bool.true_and] at this; exact this)
          obtain ⟨x, hx⟩ : ∃ x, sqAt rl 0 = x := ⟨_, rfl⟩
          obtain ⟨y, hy⟩ : ∃ y, sqAt rl ps.length = y := ⟨_, rfl⟩
          rw [hx, hy] at HRV2
          rw [hx] at r0
          rw [hy] at rn
          have hfb : (ff == 0) = true := by simp [hff0]
          clear hcell hx hy
          by_cases hx0 : x = e0
          · have HR3 : Hid (decide (y ≤ e1) = rv) := Lib.hid (by have := HRV2.out; rw [decide_eq_true hx0, Bool.true_and] at this; exact this)
            have hxb : (x == e0) = true := by simp [hx0]
            have HX0 := Lib.hid hx0
            clear hnr hnr2 hff0 hx0
            go_quiet (fail)
            go_wp2_with fail
            go_meet
            exact ⟨by rw [← HR3.out], (Fr.nil _).call (below_drewN (Below.refl _ _) _)⟩
          · have HR3 : Hid (false = rv) := Lib.hid (by have := HRV2.out; rw [decide_eq_false hx0, Bool.false_and] at this; exact this)
            have hxb : (x == e0) = false := by simp [hx0]
            clear hnr hnr2 hff0
            go_quiet (fail)
            go_wp2_with fail
            go_meet
            exact ⟨by rw [← HR3.out], (Fr.nil _).call (below_drewN (Below.refl _ _) _)⟩
        · have HR3 : Hid (false = rv) := Lib.hid (by have := HRV.out; rw [decide_eq_false hff0, Bool.false_and] at this; exact this)
          have hfb : (ff == 0) = false := by simp [hff0]
          go_quiet (fail)
          go_wp2_with fail
          go_meet
          exact ⟨by rw [← HR3.out], (Fr.nil _).call (below_drewN (Below.refl _ _) _)⟩
      case rest =>
        obtain ⟨w8, rfl⟩ : ∃ W, W = wc := ⟨_, rfl⟩
        obtain ⟨rfl, hx8⟩ := hcut
        have F8 := Lib.hid (FC4.out.call hx8.bl)
        have Y6 := Lib.hid (Lies.call Y6.out hx8.bl)
        have HFR := Lib.hid hx8
        clear hx8 FC4 k0_0 k0_1 kf0 kg0 kz0 k1_0 k1_1 k1_2 kz1 k2_0 k2_1 k2_2 k2_3 kz2
        obtain ⟨A6, c6⟩ := gx6
        obtain ⟨l6, e6, _, _⟩ := Y6.out.num (listF_at (n := N) (f := fwV ps b e0 e1) (k := 0) (by have := HNN.out; omega))
        try simp only at e6
        subst e6
        obtain ⟨k0_0, k0_1, kf0, kg0⟩ := (F8.out.get 2 rfl).two
        have kz0 := (F8.out.get 2 rfl).lt
        obtain ⟨k1_0, k1_1, k1_2⟩ := (F8.out.get 1 rfl).three
        have kz1 := (F8.out.get 1 rfl).lt
        obtain ⟨k2_0, k2_1, k2_2, k2_3⟩ := (F8.out.get 0 rfl).four
        have kz2 := (F8.out.get 0 rfl).lt
        go_upto_region 11 with fail
        clear k0_0 k0_1 kf0 kg0 kz0 k1_0 k1_1 k1_2 kz1 k2_0 k2_1 k2_2 k2_3 kz2
        go_cut [13, 14] from 115 to 123 (fun r e W => (r = .int .i64 0 ∧ e = .int .i64 0) ∧ Fr w8 W [])
        case first =>
          have HALL : Hid (∀ W, Fr w8 W [] → Fr w8 W [] ∧ W.cell? ⟨w.heap.size, 0, none⟩ = some (.string s) ∧ W.cell? ⟨w.heap.size, 1, none⟩ = some (.slice (some a) ps.length c) ∧ W.cell? ⟨w.heap.size + 1, 0, none⟩ = some (.int .i64 b.brk) ∧ W.cell? ⟨w.heap.size + 1, 1, none⟩ = some (.int .i64 b.drag) ∧ W.cell? ⟨w.heap.size + 1, 2, none⟩ = some (.int .i64 b.drv) ∧ W.cell? ⟨w.heap.size + 1 + 1, 0, none⟩ = some (.int .i64 e0) ∧ W.cell? ⟨w.heap.size + 1 + 1, 1, none⟩ = some (.int .i64 e1) ∧ W.cell? ⟨w.heap.size + 1 + 1, 2, none⟩ = some (.slice R NR cr) ∧ W.cell? ⟨w.heap.size + 1 + 1, 3, none⟩ = some (.int .i64 mr)) := Lib.hid (fun W hW => ⟨hW, ((F8.out.get 2 rfl).call hW.bl).cell 0, ((F8.out.get 2 rfl).call hW.bl).cell 1, ((F8.out.get 1 rfl).call hW.bl).cell 0, ((F8.out.get 1 rfl).call hW.bl).cell 1, ((F8.out.get 1 rfl).call hW.bl).cell 2, ((F8.out.get 0 rfl).call hW.bl).cell 0, ((F8.out.get 0 rfl).call hW.bl).cell 1, ((F8.out.get 0 rfl).call hW.bl).cell 2, ((F8.out.get 0 rfl).call hW.bl).cell 3⟩)
          have HAC := Lib.hid (Fr.lies HA.out F8.out); have HRC := Lib.hid (Fr.lies HLR.out F8.out)
          have F10 : Fr w8 _ [] := Fr.nil w8
          go_region_held3 (fun W => Fr w8 W [] ∧ W.cell? ⟨w.heap.size, 0, none⟩ = some (.string s) ∧ W.cell? ⟨w.heap.size, 1, none⟩ = some (.slice (some a) ps.length c) ∧ W.cell? ⟨w.heap.size + 1, 0, none⟩ = some (.int .i64 b.brk) ∧ W.cell? ⟨w.heap.size + 1, 1, none⟩ = some (.int .i64 b.drag) ∧ W.cell? ⟨w.heap.size + 1, 2, none⟩ = some (.int .i64 b.drv) ∧ W.cell? ⟨w.heap.size + 1 + 1, 0, none⟩ = some (.int .i64 e0) ∧ W.cell? ⟨w.heap.size + 1 + 1, 1, none⟩ = some (.int .i64 e1) ∧ W.cell? ⟨w.heap.size + 1 + 1, 2, none⟩ = some (.slice R NR cr) ∧ W.cell? ⟨w.heap.size + 1 + 1, 3, none⟩ = some (.int .i64 mr))
              ((go_split_ands; refine HALL.out _ ?_; (first | assumption | (repeat (first | assumption | refine Fr.new ?_ _ | refine Fr.drew ?_ | (refine Fr.set ?_ (by first | exact Nat.le_refl _ | omega | (simp; done) | (simp; omega)) (by first | (simp; done) | (simp; omega)) _))); done)))
              ((first
                | (go_at_call 13; go_split_ands; (with_reducible refine (Copy_any s ps ⟨(some a), c⟩ (by omega) HG.out _ (Fr.lies HAC.out (by assumption))).mono ?_); rintro e w1 ⟨g2, rfl, hl2, hk2, hb1⟩; have HL2 := Lib.hid hl2; have F4 := Fr.call (by assumption) hb1; clear hb1 hl2 hk2)
                | (go_at_call 25; go_split_ands; (with_reducible refine (HCI2.out _ _ _ (Fr.lies Y6.out (by assumption))).mono ?_); rintro e w1 ⟨g4, rfl, hl4, hk4, _, hb1⟩; have HL4 := Lib.hid hl4; have F6 := Fr.call (by assumption) hb1; have HL2 := Lib.hid (Lies.call HL2.out hb1); clear hb1 hl4 hk4)
                | (go_at_call 24; go_split_ands; (with_reducible refine (HC2.out _ _ _ _ _ HL2.out HL4.out).mono ?_); rintro e w1 ⟨rfl, hb1⟩; have F5 := Fr.call (by assumption) hb1; clear hb1)
                | fail "arm"))
          all_goals
            go_split_ands
            go_wp2_with fail
            go_meet
            exact ⟨⟨rfl, rfl⟩, by assumption⟩
        case rest =>
          obtain ⟨wx5, rfl⟩ : ∃ W, W = wc := ⟨_, rfl⟩
          obtain ⟨⟨rfl, rfl⟩, hx⟩ := hcut
          have FC5 := Lib.hid (F8.out.call hx.bl)
          have Y6 := Lib.hid (Lies.call Y6.out hx.bl)
          have HFR := Lib.hid (HFR.out.call hx.bl)
          clear hx F8
          obtain ⟨k0_0, k0_1, kf0, kg0⟩ := (FC5.out.get 2 rfl).two
          have kz0 := (FC5.out.get 2 rfl).lt
          obtain ⟨k1_0, k1_1, k1_2⟩ := (FC5.out.get 1 rfl).three
          have kz1 := (FC5.out.get 1 rfl).lt
          obtain ⟨k2_0, k2_1, k2_2, k2_3⟩ := (FC5.out.get 0 rfl).four
          have kz2 := (FC5.out.get 0 rfl).lt
          obtain ⟨z, hz⟩ : ∃ z, fwV ps b e0 e1 ps.length = z := ⟨_, rfl⟩
          have HZ := Lib.hid hz
          have hze := HEND.out
          rw [hz] at hze
          have hzd : decide (e1 < z) = false := decide_eq_false (by omega)
          have hzd2 : ¬ e1 < z := by omega
          have hnb : ((N : Int) != (ps.length : Int) + 1) = false := by rw [bne_eq_false_iff_eq]; have := HNN.out; omega
          have hn1 : (ps.length : Int) < (N : Int) := by have := HNN.out; omega
          have hn2 : (0 : Int) < (N : Int) := by omega
          have hn3 : 0 < N := by omega
          have hn4 : ps.length < N := by omega
          clear hz
          go_upto_region 12 with fail
          clear k0_0 k0_1 kf0 kg0 kz0 k1_0 k1_1 k1_2 kz1 k2_0 k2_1 k2_2 k2_3 kz2
          go_cut [161] from 124 to 161 (fun r W => r = .bool false ∧ Fr wx5 W [])
          case first =>
            refine wp_abs ?_
            intro wnow hnow
            have HALL : Hid (∀ W, Fr wx5 W [] → Fr wx5 W [] ∧ W.cell? ⟨w.heap.size, 0, none⟩ = some (.string s) ∧ W.cell? ⟨w.heap.size, 1, none⟩ = some (.slice (some a) ps.length c) ∧ W.cell? ⟨w.heap.size + 1, 1, none⟩ = some (.int .i64 b.drag) ∧ W.cell? ⟨w.heap.size + 1, 2, none⟩ = some (.int .i64 b.drv) ∧ W.cell? ⟨w.heap.size + 1 + 1, 0, none⟩ = some (.int .i64 e0) ∧ W.cell? ⟨w.heap.size + 1 + 1, 1, none⟩ = some (.int .i64 e1) ∧ W.cell? ⟨w.heap.size + 1 + 1, 2, none⟩ = some (.slice R NR cr) ∧ W.cell? ⟨w.heap.size + 1 + 1, 3, none⟩ = some (.int .i64 mr) ∧ W.cell? l6 = some (.int .i64 e0) ∧ W.cell? (l6.add ps.length) = some (.int .i64 z)) := Lib.hid (fun W hW => ⟨hW, ((FC5.out.get 2 rfl).call hW.bl).cell 0, ((FC5.out.get 2 rfl).call hW.bl).cell 1, ((FC5.out.get 1 rfl).call hW.bl).cell 1, ((FC5.out.get 1 rfl).call hW.bl).cell 2, ((FC5.out.get 0 rfl).call hW.bl).cell 0, ((FC5.out.get 0 rfl).call hW.bl).cell 1, ((FC5.out.get 0 rfl).call hW.bl).cell 2, ((FC5.out.get 0 rfl).call hW.bl).cell 3, by have := list_cell4 (k := 0) (Lies.call Y6.out hW.bl) (by have := HNN.out; omega); rw [add_zero5] at this; exact this, by rw [← HZ.out]; exact list_cell4 (Lies.call Y6.out hW.bl) (by have := HNN.out; omega)⟩)
            have F10 : Fr wx5 wnow [] := by subst hnow; exact Fr.nil _
            clear hnow
            refine Tw_start 37 (fun W => Fr wx5 W [] ∧ W.cell? ⟨w.heap.size, 0, none⟩ = some (.string s) ∧ W.cell? ⟨w.heap.size, 1, none⟩ = some (.slice (some a) ps.length c) ∧ W.cell? ⟨w.heap.size + 1, 1, none⟩ = some (.int .i64 b.drag) ∧ W.cell? ⟨w.heap.size + 1, 2, none⟩ = some (.int .i64 b.drv) ∧ W.cell? ⟨w.heap.size + 1 + 1, 0, none⟩ = some (.int .i64 e0) ∧ W.cell? ⟨w.heap.size + 1 + 1, 1, none⟩ = some (.int .i64 e1) ∧ W.cell? ⟨w.heap.size + 1 + 1, 2, none⟩ = some (.slice R NR cr) ∧ W.cell? ⟨w.heap.size + 1 + 1, 3, none⟩ = some (.int .i64 mr) ∧ W.cell? l6 = some (.int .i64 e0) ∧ W.cell? (l6.add ps.length) = some (.int .i64 z)) (by kernel_rfl) (by kernel_rfl) rfl ?_ ?_
            · (try dsimp only)
              ((go_split_ands; refine HALL.out _ ?_; (first | assumption | (repeat (first | assumption | refine Fr.new ?_ _ | refine Fr.drew ?_ | (refine Fr.set ?_ (by first | exact Nat.le_refl _ | omega | (simp; done) | (simp; omega)) (by first | (simp; done) | (simp; omega)) _))); done)))
            refine Tw_takeL (i := 0) (v := ?tv1) rfl (by kernel_rfl) (by decide) (by kernel_rfl) (by kernel_rfl) (fun _ _ _ h => h) (by rfl) ?ty1 ?tn1
            case ty1 => (intro w hSw; (try dsimp only at hSw); go_simp <;> with_reducible rfl)
            (try simp only [Act.put, List.setIfInBounds_toArray, List.set_cons_zero, List.set_cons_succ])
            refine Tw_takeL (i := 1) (v := ?tv2) rfl (by kernel_rfl) (by decide) (by kernel_rfl) (by kernel_rfl) (fun _ _ _ h => h) (by rfl) ?ty2 ?tn2
            case ty2 => (intro w hSw; (try dsimp only at hSw); go_simp <;> with_reducible rfl)
            (try simp only [Act.put, List.setIfInBounds_toArray, List.set_cons_zero, List.set_cons_succ])
            refine Tw_takeL (i := 2) (v := ?tv3) rfl (by kernel_rfl) (by decide) (by kernel_rfl) (by kernel_rfl) (fun _ _ _ h => h) (by rfl) ?ty3 ?tn3
            case ty3 => (intro w hSw; (try dsimp only at hSw); go_simp <;> with_reducible rfl)
            (try simp only [Act.put, List.setIfInBounds_toArray, List.set_cons_zero, List.set_cons_succ])
            refine Tw_takeL (i := 3) (v := ?tv4) rfl (by kernel_rfl) (by decide) (by kernel_rfl) (by kernel_rfl) (fun _ _ _ h => h) (by rfl) ?ty4 ?tn4
            case ty4 => (intro w hSw; (try dsimp only at hSw); go_simp <;> with_reducible rfl)
            (try simp only [Act.put, List.setIfInBounds_toArray, List.set_cons_zero, List.set_cons_succ])
            refine Tw_takeL (i := 4) (v := ?tv5) rfl (by kernel_rfl) (by decide) (by kernel_rfl) (by kernel_rfl) (fun _ _ _ h => h) (by rfl) ?ty5 ?tn5
            case ty5 => (intro w hSw; (try dsimp only at hSw); go_simp <;> with_reducible rfl)
            (try simp only [Act.put, List.setIfInBounds_toArray, List.set_cons_zero, List.set_cons_succ])
            refine Tw_takeL (i := 5) (v := ?tv6) rfl (by kernel_rfl) (by decide) (by kernel_rfl) (by kernel_rfl) (fun _ _ _ h => h) (by rfl) ?ty6 ?tn6
            case ty6 => (intro w hSw; (try dsimp only at hSw); go_simp <;> with_reducible rfl)
            (try simp only [Act.put, List.setIfInBounds_toArray, List.set_cons_zero, List.set_cons_succ])
            refine Tw_takeL (i := 6) (v := ?tv7) rfl (by kernel_rfl) (by decide) (by kernel_rfl) (by kernel_rfl) (fun _ _ _ h => h) (by rfl) ?ty7 ?tn7
            case ty7 => (intro w hSw; (try dsimp only at hSw); go_simp <;> with_reducible rfl)
            (try simp only [Act.put, List.setIfInBounds_toArray, List.set_cons_zero, List.set_cons_succ])
            refine Tw_takeL (i := 7) (v := ?tv8) rfl (by kernel_rfl) (by decide) (by kernel_rfl) (by kernel_rfl) (fun _ _ _ h => h) (by rfl) ?ty8 ?tn8
            case ty8 => (intro w hSw; (try dsimp only at hSw); go_simp <;> with_reducible rfl)
            (try simp only [Act.put, List.setIfInBounds_toArray, List.set_cons_zero, List.set_cons_succ])
            refine Tw_takeL (i := 8) (v := ?tv9) rfl (by kernel_rfl) (by decide) (by kernel_rfl) (by kernel_rfl) (fun _ _ _ h => h) (by rfl) ?ty9 ?tn9
            case ty9 => (intro w hSw; (try dsimp only at hSw); go_simp <;> with_reducible rfl)
            (try simp only [Act.put, List.setIfInBounds_toArray, List.set_cons_zero, List.set_cons_succ])
            refine Tw_takeL (i := 9) (v := ?tv10) rfl (by kernel_rfl) (by decide) (by kernel_rfl) (by kernel_rfl) (fun _ _ _ h => h) (by rfl) ?ty10 ?tn10
            case ty10 => (intro w hSw; (try dsimp only at hSw); go_simp <;> with_reducible rfl)
            (try simp only [Act.put, List.setIfInBounds_toArray, List.set_cons_zero, List.set_cons_succ])
            refine Tw_takeL (i := 10) (v := ?tv11) rfl (by kernel_rfl) (by decide) (by kernel_rfl) (by kernel_rfl) (fun _ _ _ h => h) (by rfl) ?ty11 ?tn11
            case ty11 => (intro w hSw; (try dsimp only at hSw); go_simp <;> with_reducible rfl)
            (try simp only [Act.put, List.setIfInBounds_toArray, List.set_cons_zero, List.set_cons_succ])
            refine Tw_takeL (i := 11) (v := ?tv12) rfl (by kernel_rfl) (by decide) (by kernel_rfl) (by kernel_rfl) (fun _ _ _ h => h) (by rfl) ?ty12 ?tn12
            case ty12 => (intro w hSw; (try dsimp only at hSw); go_simp <;> with_reducible rfl)
            (try simp only [Act.put, List.setIfInBounds_toArray, List.set_cons_zero, List.set_cons_succ])
            refine Tw_takeL (i := 12) (v := ?tv13) rfl (by kernel_rfl) (by decide) (by kernel_rfl) (by kernel_rfl) (fun _ _ _ h => h) (by rfl) ?ty13 ?tn13
            case ty13 => (intro w hSw; (try dsimp only at hSw); go_simp <;> with_reducible rfl)
            (try simp only [Act.put, List.setIfInBounds_toArray, List.set_cons_zero, List.set_cons_succ])
            refine Tw_takeL (i := 13) (v := ?tv14) rfl (by kernel_rfl) (by decide) (by kernel_rfl) (by kernel_rfl) (fun _ _ _ h => h) (by rfl) ?ty14 ?tn14
            case ty14 => (intro w hSw; (try dsimp only at hSw); go_simp <;> with_reducible rfl)
            (try simp only [Act.put, List.setIfInBounds_toArray, List.set_cons_zero, List.set_cons_succ])
            refine Tw_takeL (i := 14) (v := ?tv15) rfl (by kernel_rfl) (by decide) (by kernel_rfl) (by kernel_rfl) (fun _ _ _ h => h) (by rfl) ?ty15 ?tn15
            case ty15 => (intro w hSw; (try dsimp only at hSw); go_simp <;> with_reducible rfl)
            (try simp only [Act.put, List.setIfInBounds_toArray, List.set_cons_zero, List.set_cons_succ])
            refine Tw_takeL (i := 15) (v := ?tv16) rfl (by kernel_rfl) (by decide) (by kernel_rfl) (by kernel_rfl) (fun _ _ _ h => h) (by rfl) ?ty16 ?tn16
            case ty16 => (intro w hSw; (try dsimp only at hSw); go_simp <;> with_reducible rfl)
            (try simp only [Act.put, List.setIfInBounds_toArray, List.set_cons_zero, List.set_cons_succ])
            refine Tw_takeL (i := 16) (v := ?tv17) rfl (by kernel_rfl) (by decide) (by kernel_rfl) (by kernel_rfl) (fun _ _ _ h => h) (by rfl) ?ty17 ?tn17
            case ty17 => (intro w hSw; (try dsimp only at hSw); go_simp <;> with_reducible rfl)
            (try simp only [Act.put, List.setIfInBounds_toArray, List.set_cons_zero, List.set_cons_succ])
            refine Tw_takeL (i := 17) (v := ?tv18) rfl (by kernel_rfl) (by decide) (by kernel_rfl) (by kernel_rfl) (fun _ _ _ h => h) (by rfl) ?ty18 ?tn18
            case ty18 => (intro w hSw; (try dsimp only at hSw); go_simp <;> with_reducible rfl)
            (try simp only [Act.put, List.setIfInBounds_toArray, List.set_cons_zero, List.set_cons_succ])
            refine Tw_takeL (i := 18) (v := ?tv19) rfl (by kernel_rfl) (by decide) (by kernel_rfl) (by kernel_rfl) (fun _ _ _ h => h) (by rfl) ?ty19 ?tn19
            case ty19 => (intro w hSw; (try dsimp only at hSw); go_simp <;> with_reducible rfl)
            (try simp only [Act.put, List.setIfInBounds_toArray, List.set_cons_zero, List.set_cons_succ])
            refine Tw_takeL (i := 19) (v := ?tv20) rfl (by kernel_rfl) (by decide) (by kernel_rfl) (by kernel_rfl) (fun _ _ _ h => h) (by rfl) ?ty20 ?tn20
            case ty20 => (intro w hSw; (try dsimp only at hSw); go_simp <;> with_reducible rfl)
            (try simp only [Act.put, List.setIfInBounds_toArray, List.set_cons_zero, List.set_cons_succ])
            refine Tw_takeL (i := 20) (v := ?tv21) rfl (by kernel_rfl) (by decide) (by kernel_rfl) (by kernel_rfl) (fun _ _ _ h => h) (by rfl) ?ty21 ?tn21
            case ty21 => (intro w hSw; (try dsimp only at hSw); go_simp <;> with_reducible rfl)
            (try simp only [Act.put, List.setIfInBounds_toArray, List.set_cons_zero, List.set_cons_succ])
            refine Tw_takeL (i := 21) (v := ?tv22) rfl (by kernel_rfl) (by decide) (by kernel_rfl) (by kernel_rfl) (fun _ _ _ h => h) (by rfl) ?ty22 ?tn22
            case ty22 => (intro w hSw; (try dsimp only at hSw); go_simp <;> with_reducible rfl)
            (try simp only [Act.put, List.setIfInBounds_toArray, List.set_cons_zero, List.set_cons_succ])
            refine Tw_takeL (i := 22) (v := ?tv23) rfl (by kernel_rfl) (by decide) (by kernel_rfl) (by kernel_rfl) (fun _ _ _ h => h) (by rfl) ?ty23 ?tn23
            case ty23 => (intro w hSw; (try dsimp only at hSw); go_simp <;> with_reducible rfl)
            (try simp only [Act.put, List.setIfInBounds_toArray, List.set_cons_zero, List.set_cons_succ])
            refine Tw_takeL (i := 23) (v := ?tv24) rfl (by kernel_rfl) (by decide) (by kernel_rfl) (by kernel_rfl) (fun _ _ _ h => h) (by rfl) ?ty24 ?tn24
            case ty24 => (intro w hSw; (try dsimp only at hSw); go_simp <;> with_reducible rfl)
            (try simp only [Act.put, List.setIfInBounds_toArray, List.set_cons_zero, List.set_cons_succ])
            refine Tw_takeL (i := 24) (v := ?tv25) rfl (by kernel_rfl) (by decide) (by kernel_rfl) (by kernel_rfl) (fun _ _ _ h => h) (by rfl) ?ty25 ?tn25
            case ty25 => (intro w hSw; (try dsimp only at hSw); go_simp <;> with_reducible rfl)
            (try simp only [Act.put, List.setIfInBounds_toArray, List.set_cons_zero, List.set_cons_succ])
            refine Tw_takeL (i := 25) (v := ?tv26) rfl (by kernel_rfl) (by decide) (by kernel_rfl) (by kernel_rfl) (fun _ _ _ h => h) (by rfl) ?ty26 ?tn26
            case ty26 => (intro w hSw; (try dsimp only at hSw); go_simp <;> with_reducible rfl)
            (try simp only [Act.put, List.setIfInBounds_toArray, List.set_cons_zero, List.set_cons_succ])
            refine Tw_takeL (i := 26) (v := ?tv27) rfl (by kernel_rfl) (by decide) (by kernel_rfl) (by kernel_rfl) (fun _ _ _ h => h) (by rfl) ?ty27 ?tn27
            case ty27 => (intro w hSw; (try dsimp only at hSw); go_simp <;> with_reducible rfl)
            (try simp only [Act.put, List.setIfInBounds_toArray, List.set_cons_zero, List.set_cons_succ])
            refine Tw_takeL (i := 27) (v := ?tv28) rfl (by kernel_rfl) (by decide) (by kernel_rfl) (by kernel_rfl) (fun _ _ _ h => h) (by rfl) ?ty28 ?tn28
            case ty28 => (intro w hSw; (try dsimp only at hSw); go_simp <;> with_reducible rfl)
            (try simp only [Act.put, List.setIfInBounds_toArray, List.set_cons_zero, List.set_cons_succ])
            refine Tw_takeL (i := 28) (v := ?tv29) rfl (by kernel_rfl) (by decide) (by kernel_rfl) (by kernel_rfl) (fun _ _ _ h => h) (by rfl) ?ty29 ?tn29
            case ty29 => (intro w hSw; (try dsimp only at hSw); go_simp <;> with_reducible rfl)
            (try simp only [Act.put, List.setIfInBounds_toArray, List.set_cons_zero, List.set_cons_succ])
            refine Tw_takeL (i := 29) (v := ?tv30) rfl (by kernel_rfl) (by decide) (by kernel_rfl) (by kernel_rfl) (fun _ _ _ h => h) (by rfl) ?ty30 ?tn30
            case ty30 => (intro w hSw; (try dsimp only at hSw); go_simp <;> with_reducible rfl)
            (try simp only [Act.put, List.setIfInBounds_toArray, List.set_cons_zero, List.set_cons_succ])
            refine Tw_takeL (i := 30) (v := ?tv31) rfl (by kernel_rfl) (by decide) (by kernel_rfl) (by kernel_rfl) (fun _ _ _ h => h) (by rfl) ?ty31 ?tn31
            case ty31 => (intro w hSw; (try dsimp only at hSw); go_simp <;> with_reducible rfl)
            (try simp only [Act.put, List.setIfInBounds_toArray, List.set_cons_zero, List.set_cons_succ])
            refine Tw_takeL (i := 31) (v := ?tv32) rfl (by kernel_rfl) (by decide) (by kernel_rfl) (by kernel_rfl) (fun _ _ _ h => h) (by rfl) ?ty32 ?tn32
            case ty32 => (intro w hSw; (try dsimp only at hSw); go_simp <;> with_reducible rfl)
            (try simp only [Act.put, List.setIfInBounds_toArray, List.set_cons_zero, List.set_cons_succ])
            refine Tw_takeL (i := 32) (v := ?tv33) rfl (by kernel_rfl) (by decide) (by kernel_rfl) (by kernel_rfl) (fun _ _ _ h => h) (by rfl) ?ty33 ?tn33
            case ty33 => (intro w hSw; (try dsimp only at hSw); go_simp <;> with_reducible rfl)
            (try simp only [Act.put, List.setIfInBounds_toArray, List.set_cons_zero, List.set_cons_succ])
            refine Tw_takeL (i := 33) (v := ?tv34) rfl (by kernel_rfl) (by decide) (by kernel_rfl) (by kernel_rfl) (fun _ _ _ h => h) (by rfl) ?ty34 ?tn34
            case ty34 => (intro w hSw; (try dsimp only at hSw); go_simp <;> with_reducible rfl)
            (try simp only [Act.put, List.setIfInBounds_toArray, List.set_cons_zero, List.set_cons_succ])
            refine Tw_takeL (i := 34) (v := ?tv35) rfl (by kernel_rfl) (by decide) (by kernel_rfl) (by kernel_rfl) (fun _ _ _ h => h) (by rfl) ?ty35 ?tn35
            case ty35 => (intro w hSw; (try dsimp only at hSw); go_simp <;> with_reducible rfl)
            (try simp only [Act.put, List.setIfInBounds_toArray, List.set_cons_zero, List.set_cons_succ])
            refine Tw_all (rs := [35]) (by kernel_rfl) (by simp) (by decide) (fun hHeld => ?_)
            refine AllT.consL rfl (fun K hK => ?_) AllT.nil
            go_simp
            (go_at_call 26; go_split_ands; (with_reducible refine (HSQ.out _ _ _ (Fr.lies Y6.out (by assumption))).mono ?_); rintro e w7 ⟨rfl, hb7⟩; have F4 := Fr.call (by assumption) hb7; clear hb7)
            refine hK.out _ _ ?_ ?_
            · (try dsimp only)
              ((go_split_ands; refine HALL.out _ ?_; (first | assumption | (repeat (first | assumption | refine Fr.new ?_ _ | refine Fr.drew ?_ | (refine Fr.set ?_ (by first | exact Nat.le_refl _ | omega | (simp; done) | (simp; omega)) (by first | (simp; done) | (simp; omega)) _))); done)))
            clear hK K
            (try simp only [Act.put, List.setIfInBounds_toArray, List.set_cons_zero, List.set_cons_succ])
            refine Tw_takeL (i := 36) (v := ?tv36) rfl (by kernel_rfl) (by decide) (by kernel_rfl) (by kernel_rfl) (fun _ _ _ h => h) (by rfl) ?ty36 ?tn36
            case ty36 => (intro w hSw; (try dsimp only at hSw); go_simp <;> with_reducible rfl)
            (try simp only [Act.put, List.setIfInBounds_toArray, List.set_cons_zero, List.set_cons_succ])
            refine Tw_end (by kernel_rfl) (fun hh => ?_)
            obtain ⟨F11, _⟩ := hh
            clear HALL
            go_wp2_with fail
            go_meet
            exact ⟨rfl, F11⟩
          case rest =>
            obtain ⟨w12, rfl⟩ : ∃ W, W = wc := ⟨_, rfl⟩
            obtain ⟨rfl, hx⟩ := hcut
            have FD := Lib.hid (FC5.out.call hx.bl)
            have Y6 := Lib.hid (Lies.call Y6.out hx.bl)
            have HFR := Lib.hid (HFR.out.call hx.bl)
            clear hx FC5
            obtain ⟨k0_0, k0_1, kf0, kg0⟩ := (FD.out.get 2 rfl).two
            have kz0 := (FD.out.get 2 rfl).lt
            obtain ⟨k1_0, k1_1, k1_2⟩ := (FD.out.get 1 rfl).three
            have kz1 := (FD.out.get 1 rfl).lt
            obtain ⟨k2_0, k2_1, k2_2, k2_3⟩ := (FD.out.get 0 rfl).four
            have kz2 := (FD.out.get 0 rfl).lt
            cases rv with
            | false =>
              go_upto_region 24 with fail
              clear k0_0 k0_1 kf0 kg0 kz0 k1_0 k1_1 k1_2 kz1 k2_0 k2_1 k2_2 k2_3 kz2
              go_cut [20, 21] from 219 to 237 (fun r e W => (∃ g : Hd, r = .slice g.A (N : Nat) g.c ∧ e = .int .i64 0 ∧ Lies W W.heap.size g.A (ic (listF N (fwV ps b e0 e2)))) ∧ Fr w12 W [])
              case first =>
                have HALL : Hid (∀ W, Fr w12 W [] → Fr w12 W [] ∧ W.cell? ⟨w.heap.size, 0, none⟩ = some (.string s) ∧ W.cell? ⟨w.heap.size, 1, none⟩ = some (.slice (some a) ps.length c) ∧ W.cell? ⟨w.heap.size + 1, 0, none⟩ = some (.int .i64 b.brk) ∧ W.cell? ⟨w.heap.size + 1, 1, none⟩ = some (.int .i64 b.drag) ∧ W.cell? ⟨w.heap.size + 1, 2, none⟩ = some (.int .i64 b.drv) ∧ W.cell? ⟨w.heap.size + 1 + 1, 0, none⟩ = some (.int .i64 e0) ∧ W.cell? ⟨w.heap.size + 1 + 1, 1, none⟩ = some (.int .i64 e1) ∧ W.cell? ⟨w.heap.size + 1 + 1, 2, none⟩ = some (.slice R NR cr) ∧ W.cell? ⟨w.heap.size + 1 + 1, 3, none⟩ = some (.int .i64 mr)) := Lib.hid (fun W hW => ⟨hW, ((FD.out.get 2 rfl).call hW.bl).cell 0, ((FD.out.get 2 rfl).call hW.bl).cell 1, ((FD.out.get 1 rfl).call hW.bl).cell 0, ((FD.out.get 1 rfl).call hW.bl).cell 1, ((FD.out.get 1 rfl).call hW.bl).cell 2, ((FD.out.get 0 rfl).call hW.bl).cell 0, ((FD.out.get 0 rfl).call hW.bl).cell 1, ((FD.out.get 0 rfl).call hW.bl).cell 2, ((FD.out.get 0 rfl).call hW.bl).cell 3⟩)
                have HAC := Lib.hid (Fr.lies HA.out FD.out); have HRC := Lib.hid (Fr.lies HLR.out FD.out)
                have F10 : Fr w12 _ [] := Fr.nil w12
                rcases Int.lt_trichotomy v 20000000000 with hv | hv | hv
                · have hv2 := hv
                  have hv3 : ((20000000000 : Int) < v) = False := eq_false (by omega)
                  have hv4 : ((20000000000 : Int) ≤ v) = False := eq_false (by omega)
                  have hv5 : v ≤ 20000000000 := by omega
                  obtain rfl : e2 = v := by have := HE2.out; omega
                  go_region_held3 (fun W => Fr w12 W [] ∧ W.cell? ⟨w.heap.size, 0, none⟩ = some (.string s) ∧ W.cell? ⟨w.heap.size, 1, none⟩ = some (.slice (some a) ps.length c) ∧ W.cell? ⟨w.heap.size + 1, 0, none⟩ = some (.int .i64 b.brk) ∧ W.cell? ⟨w.heap.size + 1, 1, none⟩ = some (.int .i64 b.drag) ∧ W.cell? ⟨w.heap.size + 1, 2, none⟩ = some (.int .i64 b.drv) ∧ W.cell? ⟨w.heap.size + 1 + 1, 0, none⟩ = some (.int .i64 e0) ∧ W.cell? ⟨w.heap.size + 1 + 1, 1, none⟩ = some (.int .i64 e1) ∧ W.cell? ⟨w.heap.size + 1 + 1, 2, none⟩ = some (.slice R NR cr) ∧ W.cell? ⟨w.heap.size + 1 + 1, 3, none⟩ = some (.int .i64 mr))
                      ((go_split_ands; refine HALL.out _ ?_; (first | assumption | (repeat (first | assumption | refine Fr.new ?_ _ | refine Fr.drew ?_ | (refine Fr.set ?_ (by first | exact Nat.le_refl _ | omega | (simp; done) | (simp; omega)) (by first | (simp; done) | (simp; omega)) _))); done)))
                      ((first
                        | (go_at_call 13; go_split_ands; (with_reducible refine (Copy_any s ps ⟨(some a), c⟩ (by omega) HG.out _ (Fr.lies HAC.out (by assumption))).mono ?_); rintro e w1 ⟨g2, rfl, hl2, hk2, hb1⟩; have HL2 := Lib.hid hl2; have F4 := Fr.call (by assumption) hb1; clear hb1 hl2 hk2)
                        | (go_at_call 28; (with_reducible refine (HMOD.out _).mono ?_); rintro e w' ⟨rfl, rfl⟩)
                        | (go_at_call 21; go_split_ands; (with_reducible refine (HFB.out _ _ _ HL2.out).mono ?_); rintro e w1 ⟨g3, rfl, hl3, hb1⟩; have HL3 := Lib.hid hl3; have F5 := Fr.call (by assumption) hb1; clear hb1 hl3)
                        | fail "arm"))
                  all_goals
                    go_split_ands
                    go_wp2_with fail
                    go_meet
                    exact ⟨⟨g3, rfl, rfl, HL3.out⟩, by assumption⟩
                · have hv2 := hv
                  subst hv
                  obtain rfl : e2 = 20000000000 := by have := HE2.out; omega
                  go_region_held3 (fun W => Fr w12 W [] ∧ W.cell? ⟨w.heap.size, 0, none⟩ = some (.string s) ∧ W.cell? ⟨w.heap.size, 1, none⟩ = some (.slice (some a) ps.length c) ∧ W.cell? ⟨w.heap.size + 1, 0, none⟩ = some (.int .i64 b.brk) ∧ W.cell? ⟨w.heap.size + 1, 1, none⟩ = some (.int .i64 b.drag) ∧ W.cell? ⟨w.heap.size + 1, 2, none⟩ = some (.int .i64 b.drv) ∧ W.cell? ⟨w.heap.size + 1 + 1, 0, none⟩ = some (.int .i64 e0) ∧ W.cell? ⟨w.heap.size + 1 + 1, 1, none⟩ = some (.int .i64 e1) ∧ W.cell? ⟨w.heap.size + 1 + 1, 2, none⟩ = some (.slice R NR cr) ∧ W.cell? ⟨w.heap.size + 1 + 1, 3, none⟩ = some (.int .i64 mr))
                      ((go_split_ands; refine HALL.out _ ?_; (first | assumption | (repeat (first | assumption | refine Fr.new ?_ _ | refine Fr.drew ?_ | (refine Fr.set ?_ (by first | exact Nat.le_refl _ | omega | (simp; done) | (simp; omega)) (by first | (simp; done) | (simp; omega)) _))); done)))
                      ((first
                        | (go_at_call 13; go_split_ands; (with_reducible refine (Copy_any s ps ⟨(some a), c⟩ (by omega) HG.out _ (Fr.lies HAC.out (by assumption))).mono ?_); rintro e w1 ⟨g2, rfl, hl2, hk2, hb1⟩; have HL2 := Lib.hid hl2; have F4 := Fr.call (by assumption) hb1; clear hb1 hl2 hk2)
                        | (go_at_call 28; (with_reducible refine (HMOD.out _).mono ?_); rintro e w' ⟨rfl, rfl⟩)
                        | (go_at_call 21; go_split_ands; (with_reducible refine (HFB.out _ _ _ HL2.out).mono ?_); rintro e w1 ⟨g3, rfl, hl3, hb1⟩; have HL3 := Lib.hid hl3; have F5 := Fr.call (by assumption) hb1; clear hb1 hl3)
                        | fail "arm"))
                  all_goals
                    go_split_ands
                    go_wp2_with fail
                    go_meet
                    exact ⟨⟨g3, rfl, rfl, HL3.out⟩, by assumption⟩
                · have hv2 := hv
                  have hv3 : (v < (20000000000 : Int)) = False := eq_false (by omega)
                  have hv4 : (v ≤ (20000000000 : Int)) = False := eq_false (by omega)
                  have hv5 : (20000000000 : Int) ≤ v := by omega
                  obtain rfl : e2 = 20000000000 := by have := HE2.out; omega
                  go_region_held3 (fun W => Fr w12 W [] ∧ W.cell? ⟨w.heap.size, 0, none⟩ = some (.string s) ∧ W.cell? ⟨w.heap.size, 1, none⟩ = some (.slice (some a) ps.length c) ∧ W.cell? ⟨w.heap.size + 1, 0, none⟩ = some (.int .i64 b.brk) ∧ W.cell? ⟨w.heap.size + 1, 1, none⟩ = some (.int .i64 b.drag) ∧ W.cell? ⟨w.heap.size + 1, 2, none⟩ = some (.int .i64 b.drv) ∧ W.cell? ⟨w.heap.size + 1 + 1, 0, none⟩ = some (.int .i64 e0) ∧ W.cell? ⟨w.heap.size + 1 + 1, 1, none⟩ = some (.int .i64 e1) ∧ W.cell? ⟨w.heap.size + 1 + 1, 2, none⟩ = some (.slice R NR cr) ∧ W.cell? ⟨w.heap.size + 1 + 1, 3, none⟩ = some (.int .i64 mr))
                      ((go_split_ands; refine HALL.out _ ?_; (first | assumption | (repeat (first | assumption | refine Fr.new ?_ _ | refine Fr.drew ?_ | (refine Fr.set ?_ (by first | exact Nat.le_refl _ | omega | (simp; done) | (simp; omega)) (by first | (simp; done) | (simp; omega)) _))); done)))
                      ((first
                        | (go_at_call 13; go_split_ands; (with_reducible refine (Copy_any s ps ⟨(some a), c⟩ (by omega) HG.out _ (Fr.lies HAC.out (by assumption))).mono ?_); rintro e w1 ⟨g2, rfl, hl2, hk2, hb1⟩; have HL2 := Lib.hid hl2; have F4 := Fr.call (by assumption) hb1; clear hb1 hl2 hk2)
                        | (go_at_call 28; (with_reducible refine (HMOD.out _).mono ?_); rintro e w' ⟨rfl, rfl⟩)
                        | (go_at_call 21; go_split_ands; (with_reducible refine (HFB.out _ _ _ HL2.out).mono ?_); rintro e w1 ⟨g3, rfl, hl3, hb1⟩; have HL3 := Lib.hid hl3; have F5 := Fr.call (by assumption) hb1; clear hb1 hl3)
                        | fail "arm"))
                  all_goals
                    go_split_ands
                    go_wp2_with fail
                    go_meet
                    exact ⟨⟨g3, rfl, rfl, HL3.out⟩, by assumption⟩
              case rest =>
                obtain ⟨wx6, rfl⟩ : ∃ W, W = wc := ⟨_, rfl⟩
                obtain ⟨⟨gy, rfl, rfl, hyy⟩, hx⟩ := hcut
                have FC6 := Lib.hid (FD.out.call hx.bl)
                have Y6 := Lib.hid (Lies.call Y6.out hx.bl)
                clear hx FD
                obtain ⟨k0_0, k0_1, kf0, kg0⟩ := (FC6.out.get 2 rfl).two
                have kz0 := (FC6.out.get 2 rfl).lt
                obtain ⟨k1_0, k1_1, k1_2⟩ := (FC6.out.get 1 rfl).three
                have kz1 := (FC6.out.get 1 rfl).lt
                obtain ⟨k2_0, k2_1, k2_2, k2_3⟩ := (FC6.out.get 0 rfl).four
                have kz2 := (FC6.out.get 0 rfl).lt
                have YY := Lib.hid hyy
                clear hyy
                obtain ⟨Ay, cy⟩ := gy
                obtain ⟨ly, ey, _, _⟩ := YY.out.num (listF_at (n := N) (f := fwV ps b e0 e2) (k := 0) (by have := HNN.out; omega))
                try simp only at ey
                subst ey
                clear k0_0 k0_1 kf0 kg0 kz0 k1_0 k1_1 k1_2 kz1 k2_0 k2_1 k2_2 k2_3 kz2
                have FZ := FC6
                clear FC6
                go_wp2_with fail
                go_loopw [22] (fun i wr => ∃ t : Nat, t ≤ N ∧ i = .int .i64 (t : Int) ∧ Fr wx6 wr []) (fun i _ => N + 1 - (intOf i).toNat)
                case atStart => exact ⟨0, Nat.zero_le _, rfl, Fr.nil wx6⟩
                case round =>
                  obtain ⟨t, ht, rfl, hf⟩ := hrel
                  have HT := Lib.hid hf
                  by_cases hlt : t < N
                  · have hlt2 : (t : Int) < (N : Int) := by omega
                    have hlt3 : (t : Int) ≤ (ps.length : Int) := by have := HNN.out; omega
                    have hlt4 : t ≤ ps.length := by have := HNN.out; omega
                    have hwt := IntWalk.i64_in ((t : Int) + 1) (by omega)
                    have cA := list_cell4 (Lies.call YY.out hf.bl) hlt
                    have cB := list_cell4 (Lies.call Y6.out hf.bl) hlt
                    have hle := fw_mono (ps := ps) (b := b) (e0 := e0) HEE.out t
                    obtain ⟨x, hx⟩ : ∃ x, fwV ps b e0 e1 t = x := ⟨_, rfl⟩
                    obtain ⟨y, hy⟩ : ∃ y, fwV ps b e0 e2 t = y := ⟨_, rfl⟩
                    rw [hx] at cB hle
                    rw [hy] at cA hle
                    have hd : decide (y < x) = false := decide_eq_false (by omega)
                    have hd2 : ¬ y < x := by omega
                    clear hx hy hle hf
                    go_upto_region 30 with fail
                    go_cut [260] from 252 to 260 (fun r W => r = .bool false ∧ Fr wx6 W [])
                    case first =>
                      go_quiet (fail)
                      go_wp2_with fail
                      go_meet
                      exact ⟨rfl, HT.out.call (below_drewN (Below.refl _ _) _)⟩
                    case rest =>
                    obtain ⟨wu, rfl⟩ : ∃ W, W = wc := ⟨_, rfl⟩
                    obtain ⟨rfl, hxu⟩ := hcut
                    have HT2 := Lib.hid hxu
                    clear hxu
                    go_wp2_with fail
                    go_roundw
                    case rel => exact ⟨t + 1, by omega, rfl, HT2.out⟩
                    case measure => simp [intOf] <;> omega
                  · have hge : ¬ ((t : Int) ≤ (ps.length : Int)) := by have := HNN.out; omega
                    have hge2 : ¬ (t ≤ ps.length) := by have := HNN.out; omega
                    go_wp2_with fail
                    go_ret
                    exact ⟨rfl, (FZ.out.call HT.out.bl).bl⟩
            | true =>
              have hrv := HRV.out
              simp only [Bool.and_eq_true, decide_eq_true_eq] at hrv
              obtain ⟨v1, v2, v3⟩ := hrv
              obtain ⟨k0, hs0, hrun⟩ := HFF.out v1
              obtain ⟨ar, hR, hNR2, hcell⟩ := HRQ.out v1
              have HLE := Lib.hid (fun k hk => le_fw (e0 := e0) (e1 := e1) hrun v2 v3 k hk)
              have HS0 := Lib.hid hs0
              have HCELL := Lib.hid hcell
              have HNR2 := Lib.hid hNR2
              subst k0
              subst hR
              subst v1
              obtain ⟨lo2, hi2, er2, ht2, ht2k⟩ := HSR.out hs0
              rw [HNR.out] at ht2
              have HT2 := Lib.hid ht2
              have HBT := Lib.hid (both_times (l := rl) (m := (listF N (fwV ps b e0 e1))) HOK.out.each hs0 (by rw [HNN.out]; exact HFE.out) (fun k hk => by rw [sqAt_listF (by have := HNN.out; omega)]; exact HLE.out k hk) HT1K.out ht2k)
              clear hrun v2 v3 hs0 hcell hNR2 ht2 ht2k
              go_wp2_with fail
              go_loopw [15] (fun i wr => ∃ t : Nat, t ≤ N ∧ i = .int .i64 (t : Int) ∧ Fr w12 wr []) (fun i _ => N + 1 - (intOf i).toNat)
              case atStart => exact ⟨0, Nat.zero_le _, rfl, Fr.nil w12⟩
              case round =>
                obtain ⟨t, ht, rfl, hf⟩ := hrel
                have HTT := Lib.hid hf
                have FT := Lib.hid (FD.out.call hf.bl)
                by_cases hlt : t < N
                · have hlt2 : (t : Int) < (N : Int) := by omega
                  have hlt3 : (t : Int) ≤ (ps.length : Int) := by have := HNN.out; omega
                  have hlt4 : t ≤ ps.length := by have := HNN.out; omega
                  have hlt5 : (t : Int) < (NR : Int) := by have := HNN.out; have := HNR2.out; omega
                  have hwt := IntWalk.i64_in ((t : Int) + 1) (by omega)
                  have cA := HCELL.out t hlt4 _ (HFR.out.call hf.bl)
                  have cB := list_cell4 (Lies.call Y6.out hf.bl) hlt
                  have cR := (FT.out.get 0 rfl).cell 2
                  have hle := HLE.out t hlt4
                  obtain ⟨x, hx⟩ : ∃ x, sqAt rl t = x := ⟨_, rfl⟩
                  obtain ⟨y, hy⟩ : ∃ y, fwV ps b e0 e1 t = y := ⟨_, rfl⟩
                  rw [hx] at cA hle
                  rw [hy] at cB hle
                  have hd : decide (y < x) = false := decide_eq_false (by omega)
                  have hd2 : ¬ y < x := by omega
                  clear hx hy hle hf
                  go_upto_region 18 with fail
                  go_cut [181] from 168 to 181 (fun r W => r = .bool false ∧ Fr w12 W [])
                  case first =>
                    go_quiet (fail)
                    go_wp2_with fail
                    go_meet
                    exact ⟨rfl, HTT.out.call (below_drewN (Below.refl _ _) _)⟩
                  case rest =>
                  obtain ⟨wu, rfl⟩ : ∃ W, W = wc := ⟨_, rfl⟩
                  obtain ⟨rfl, hxu⟩ := hcut
                  have HTU := Lib.hid hxu
                  clear hxu
                  go_wp2_with fail
                  go_roundw
                  case rel => exact ⟨t + 1, by omega, rfl, HTU.out⟩
                  case measure => simp [intOf] <;> omega
                · have hge : ¬ ((t : Int) ≤ (ps.length : Int)) := by have := HNN.out; omega
                  have hge2 : ¬ (t ≤ ps.length) := by have := HNN.out; omega
                  have Y6 := Lib.hid (Lies.call Y6.out hf.bl)
                  clear hf
                  clear k0_0 k0_1 kf0 kg0 kz0 k1_0 k1_1 k1_2 kz1 k2_0 k2_1 k2_2 k2_3 kz2
                  obtain ⟨k0_0, k0_1, kf0, kg0⟩ := (FT.out.get 2 rfl).two
                  have kz0 := (FT.out.get 2 rfl).lt
                  obtain ⟨k1_0, k1_1, k1_2⟩ := (FT.out.get 1 rfl).three
                  have kz1 := (FT.out.get 1 rfl).lt
                  obtain ⟨k2_0, k2_1, k2_2, k2_3⟩ := (FT.out.get 0 rfl).four
                  have kz2 := (FT.out.get 0 rfl).lt
                  go_wp2_with fail
                  refine (Copy_any s ps ⟨(some a), c⟩ (by omega) HG.out _ (Fr.lies HA.out FT.out)).mono ?_
                  rintro e w31 ⟨g9, rfl, hl9, hk9, hb31⟩
                  clear k0_0 k0_1 kf0 kg0 kz0 k1_0 k1_1 k1_2 kz1 k2_0 k2_1 k2_2 k2_3 kz2
                  have G31 := Fr.call FT.out hb31
                  have HL2 := Lib.hid hl9
                  have Y6 := Lib.hid (Lies.call Y6.out hb31)
                  obtain ⟨k0_0, k0_1, kf0, kg0⟩ := (G31.get 2 rfl).two
                  have kz0 := (G31.get 2 rfl).lt
                  obtain ⟨k1_0, k1_1, k1_2⟩ := (G31.get 1 rfl).three
                  have kz1 := (G31.get 1 rfl).lt
                  obtain ⟨k2_0, k2_1, k2_2, k2_3⟩ := (G31.get 0 rfl).four
                  have kz2 := (G31.get 0 rfl).lt
                  have F31 : Hid (Fr w _ [(w.heap.size + 1 + 1, 66, #[.int .i64 e0, .int .i64 e1, .slice (some ar) NR cr, .int .i64 mr]), (w.heap.size + 1, 26, #[.int .i64 b.brk, .int .i64 b.drag, .int .i64 b.drv]), (w.heap.size, 24, #[.string s, .slice (some a) ps.length c])]) := Lib.hid G31
                  clear hb31 G31 FT
                  clear hl9 hk9
                  go_wp2_with fail
                  refine (HCI2.out _ _ _ Y6.out).mono ?_
                  rintro e w32 ⟨g10, rfl, hl10, hk10, _, hb32⟩
                  clear k0_0 k0_1 kf0 kg0 kz0 k1_0 k1_1 k1_2 kz1 k2_0 k2_1 k2_2 k2_3 kz2
                  have G32 := Fr.call F31.out hb32
                  have HL4 := Lib.hid hl10
                  have Y6 := Lib.hid (Lies.call Y6.out hb32)
                  have HL2 := Lib.hid (Lies.call HL2.out hb32)
                  obtain ⟨k0_0, k0_1, kf0, kg0⟩ := (G32.get 2 rfl).two
                  have kz0 := (G32.get 2 rfl).lt
                  obtain ⟨k1_0, k1_1, k1_2⟩ := (G32.get 1 rfl).three
                  have kz1 := (G32.get 1 rfl).lt
                  obtain ⟨k2_0, k2_1, k2_2, k2_3⟩ := (G32.get 0 rfl).four
                  have kz2 := (G32.get 0 rfl).lt
                  have F32 : Hid (Fr w _ [(w.heap.size + 1 + 1, 66, #[.int .i64 e0, .int .i64 e1, .slice (some ar) NR cr, .int .i64 mr]), (w.heap.size + 1, 26, #[.int .i64 b.brk, .int .i64 b.drag, .int .i64 b.drv]), (w.heap.size, 24, #[.string s, .slice (some a) ps.length c])]) := Lib.hid G32
                  clear hb32 G32 F31
                  clear hl10 hk10
                  go_wp2_with fail
                  refine (HT1.out _ _ _ _ _ HL2.out HL4.out).mono ?_
                  rintro e w33 ⟨rfl, hb33⟩
                  clear k0_0 k0_1 kf0 kg0 kz0 k1_0 k1_1 k1_2 kz1 k2_0 k2_1 k2_2 k2_3 kz2
                  have G33 := Fr.call F32.out hb33
                  have Y6 := Lib.hid (Lies.call Y6.out hb33)
                  obtain ⟨k0_0, k0_1, kf0, kg0⟩ := (G33.get 2 rfl).two
                  have kz0 := (G33.get 2 rfl).lt
                  obtain ⟨k1_0, k1_1, k1_2⟩ := (G33.get 1 rfl).three
                  have kz1 := (G33.get 1 rfl).lt
                  obtain ⟨k2_0, k2_1, k2_2, k2_3⟩ := (G33.get 0 rfl).four
                  have kz2 := (G33.get 0 rfl).lt
                  have F33 : Hid (Fr w _ [(w.heap.size + 1 + 1, 66, #[.int .i64 e0, .int .i64 e1, .slice (some ar) NR cr, .int .i64 mr]), (w.heap.size + 1, 26, #[.int .i64 b.brk, .int .i64 b.drag, .int .i64 b.drv]), (w.heap.size, 24, #[.string s, .slice (some a) ps.length c])]) := Lib.hid G33
                  clear hb33 G33 F32
                  go_upto_region 21 with fail
                  refine wp_abs ?_
                  intro wq hq
                  have FQ : Hid (Fr w wq [(w33.heap.size, 48, #[.int .i64 lo1, .int .i64 hi1]), (w.heap.size + 1 + 1, 66, #[.int .i64 e0, .int .i64 e1, .slice (some ar) NR cr, .int .i64 mr]), (w.heap.size + 1, 26, #[.int .i64 b.brk, .int .i64 b.drag, .int .i64 b.drv]), (w.heap.size, 24, #[.string s, .slice (some a) ps.length c])]) := Lib.hid (by subst hq; exact F33.out.box 48 #[.int .i64 lo1, .int .i64 hi1])
                  have Y6 := Lib.hid (by subst hq; exact Y6.out.new _ : Lies wq wq.heap.size _ _)
                  clear hq F33 k0_0 k0_1 kf0 kg0 kz0 k1_0 k1_1 k1_2 kz1 k2_0 k2_1 k2_2 k2_3 kz2
                  obtain ⟨k0_0, k0_1, kf0, kg0⟩ := (FQ.out.get 3 rfl).two
                  have kz0 := (FQ.out.get 3 rfl).lt
                  obtain ⟨k1_0, k1_1, k1_2⟩ := (FQ.out.get 2 rfl).three
                  have kz1 := (FQ.out.get 2 rfl).lt
                  obtain ⟨k2_0, k2_1, k2_2, k2_3⟩ := (FQ.out.get 1 rfl).four
                  have kz2 := (FQ.out.get 1 rfl).lt
                  obtain ⟨k3_0, k3_1, kf3, kg3⟩ := (FQ.out.get 0 rfl).two
                  have kz3 := (FQ.out.get 0 rfl).lt
                  clear k0_0 k0_1 kf0 kg0 kz0 k1_0 k1_1 k1_2 kz1 k2_0 k2_1 k2_2 k2_3 kz2 k3_0 k3_1 kf3 kg3 kz3
                  go_cut [18, 19] from 190 to 198 (fun pv ev W => ∃ g : Nat, pv = .pointer (some ⟨g, 0, none⟩) ∧ ev = .int .i64 er2 ∧ Fr wq W [(g, 48, #[.int .i64 lo2, .int .i64 hi2])])
                  case first =>
                    refine wp_abs ?_
                    intro wnow hnow
                    have HALL : Hid (∀ W, Fr wq W [] → Fr wq W [] ∧ W.cell? ⟨w.heap.size, 0, none⟩ = some (.string s) ∧ W.cell? ⟨w.heap.size, 1, none⟩ = some (.slice (some a) ps.length c) ∧ W.cell? ⟨w.heap.size + 1, 0, none⟩ = some (.int .i64 b.brk) ∧ W.cell? ⟨w.heap.size + 1, 1, none⟩ = some (.int .i64 b.drag) ∧ W.cell? ⟨w.heap.size + 1, 2, none⟩ = some (.int .i64 b.drv) ∧ W.cell? ⟨w.heap.size + 1 + 1, 0, none⟩ = some (.int .i64 e0) ∧ W.cell? ⟨w.heap.size + 1 + 1, 1, none⟩ = some (.int .i64 e1) ∧ W.cell? ⟨w.heap.size + 1 + 1, 2, none⟩ = some (.slice (some ar) NR cr) ∧ W.cell? ⟨w.heap.size + 1 + 1, 3, none⟩ = some (.int .i64 mr)) := Lib.hid (fun W hW => ⟨hW, ((FQ.out.get 3 rfl).call hW.bl).cell 0, ((FQ.out.get 3 rfl).call hW.bl).cell 1, ((FQ.out.get 2 rfl).call hW.bl).cell 0, ((FQ.out.get 2 rfl).call hW.bl).cell 1, ((FQ.out.get 2 rfl).call hW.bl).cell 2, ((FQ.out.get 1 rfl).call hW.bl).cell 0, ((FQ.out.get 1 rfl).call hW.bl).cell 1, ((FQ.out.get 1 rfl).call hW.bl).cell 2, ((FQ.out.get 1 rfl).call hW.bl).cell 3⟩)
                    have HAC := Lib.hid (Fr.lies HA.out FQ.out)
                    have F10 : Fr wq wnow [] := by subst hnow; exact Fr.nil _
                    clear hnow
                    have HRC := Lib.hid (Fr.lies HLR.out FQ.out)
                    refine Tw_start 11 (fun W => Fr wq W [] ∧ W.cell? ⟨w.heap.size, 0, none⟩ = some (.string s) ∧ W.cell? ⟨w.heap.size, 1, none⟩ = some (.slice (some a) ps.length c) ∧ W.cell? ⟨w.heap.size + 1, 0, none⟩ = some (.int .i64 b.brk) ∧ W.cell? ⟨w.heap.size + 1, 1, none⟩ = some (.int .i64 b.drag) ∧ W.cell? ⟨w.heap.size + 1, 2, none⟩ = some (.int .i64 b.drv) ∧ W.cell? ⟨w.heap.size + 1 + 1, 0, none⟩ = some (.int .i64 e0) ∧ W.cell? ⟨w.heap.size + 1 + 1, 1, none⟩ = some (.int .i64 e1) ∧ W.cell? ⟨w.heap.size + 1 + 1, 2, none⟩ = some (.slice (some ar) NR cr) ∧ W.cell? ⟨w.heap.size + 1 + 1, 3, none⟩ = some (.int .i64 mr)) (by kernel_rfl) (by kernel_rfl) rfl ?_ ?_
                    · (try dsimp only)
                      ((go_split_ands; refine HALL.out _ ?_; (first | assumption | (repeat (first | assumption | refine Fr.new ?_ _ | refine Fr.drew ?_ | (refine Fr.set ?_ (by first | exact Nat.le_refl _ | omega | (simp; done) | (simp; omega)) (by first | (simp; done) | (simp; omega)) _))); done)))
                    refine Tw_takeL (i := 0) (v := ?tv37) rfl (by kernel_rfl) (by decide) (by kernel_rfl) (by kernel_rfl) (fun _ _ _ h => h) (by rfl) ?ty37 ?tn37
                    case ty37 => (intro w hSw; (try dsimp only at hSw); go_simp <;> with_reducible rfl)
                    (try simp only [Act.put, List.setIfInBounds_toArray, List.set_cons_zero, List.set_cons_succ])
                    refine Tw_takeL (i := 2) (v := ?tv38) rfl (by kernel_rfl) (by decide) (by kernel_rfl) (by kernel_rfl) (fun _ _ _ h => h) (by rfl) ?ty38 ?tn38
                    case ty38 => (intro w hSw; (try dsimp only at hSw); go_simp <;> with_reducible rfl)
                    (try simp only [Act.put, List.setIfInBounds_toArray, List.set_cons_zero, List.set_cons_succ])
                    refine Tw_takeL (i := 3) (v := ?tv39) rfl (by kernel_rfl) (by decide) (by kernel_rfl) (by kernel_rfl) (fun _ _ _ h => h) (by rfl) ?ty39 ?tn39
                    case ty39 => (intro w hSw; (try dsimp only at hSw); go_simp <;> with_reducible rfl)
                    (try simp only [Act.put, List.setIfInBounds_toArray, List.set_cons_zero, List.set_cons_succ])
                    refine Tw_all (rs := [1, 9]) (by kernel_rfl) (by simp) (by decide) (fun hHeld => ?_)
                    refine AllT.consL rfl (fun K hK => ?_) (AllT.consL rfl (fun K hK => ?_) (AllT.nil))
                    · go_simp
                      (go_at_call 13; go_split_ands; (with_reducible refine (Copy_any s ps ⟨(some a), c⟩ (by omega) HG.out _ (Fr.lies HAC.out (by assumption))).mono ?_); rintro e w7 ⟨g2, rfl, hl2, hk2, hb7⟩; have L2 := Lib.hid hl2; have F4 := Fr.call (by assumption) hb7; (first | (have N1 := Lib.hid (Bk.call N1.out hb7)) | skip); (first | (have L4 := Lib.hid (Lies.call L4.out hb7)) | skip); clear hb7 hl2 hk2)
                      refine hK.out _ _ ?_ ?_
                      · (try dsimp only)
                        ((go_split_ands; refine HALL.out _ ?_; (first | assumption | (repeat (first | assumption | refine Fr.new ?_ _ | refine Fr.drew ?_ | (refine Fr.set ?_ (by first | exact Nat.le_refl _ | omega | (simp; done) | (simp; omega)) (by first | (simp; done) | (simp; omega)) _))); done)))
                      clear hK K
                      (try simp only [Act.put, List.setIfInBounds_toArray, List.set_cons_zero, List.set_cons_succ])
                      refine Tw_all (rs := [4, 9]) (by kernel_rfl) (by simp) (by decide) (fun hHeld => ?_)
                      refine AllT.consL rfl (fun K hK => ?_) (AllT.consL rfl (fun K hK => ?_) (AllT.nil))
                      · go_simp
                        (go_at_call 25; go_split_ands; (with_reducible refine (HCI.out _ (Fr.lies HRC.out (by assumption))).mono ?_); rintro e w7 ⟨g4, rfl, hl4, hk4, _, hb7⟩; have L4 := Lib.hid hl4; have F4 := Fr.call (by assumption) hb7; (first | (have N1 := Lib.hid (Bk.call N1.out hb7)) | skip); (first | (have L2 := Lib.hid (Lies.call L2.out hb7)) | skip); clear hb7 hl4 hk4)
                        refine hK.out _ _ ?_ ?_
                        · (try dsimp only)
                          ((go_split_ands; refine HALL.out _ ?_; (first | assumption | (repeat (first | assumption | refine Fr.new ?_ _ | refine Fr.drew ?_ | (refine Fr.set ?_ (by first | exact Nat.le_refl _ | omega | (simp; done) | (simp; omega)) (by first | (simp; done) | (simp; omega)) _))); done)))
                        clear hK K
                        (try simp only [Act.put, List.setIfInBounds_toArray, List.set_cons_zero, List.set_cons_succ])
                        refine Tw_all (rs := [5, 9]) (by kernel_rfl) (by simp) (by decide) (fun hHeld => ?_)
                        refine AllT.consL rfl (fun K hK => ?_) (AllT.consL rfl (fun K hK => ?_) (AllT.nil))
                        · go_simp
                          (go_at_call 27; go_split_ands; (with_reducible refine (HT2.out _ _ _ _ _ L2.out L4.out).mono ?_); rintro e w7 ⟨rfl, hb7⟩; have F4 := Fr.call (by assumption) hb7; (first | (have N1 := Lib.hid (Bk.call N1.out hb7)) | skip); clear hb7)
                          refine hK.out _ _ ?_ ?_
                          · (try dsimp only)
                            ((go_split_ands; refine HALL.out _ ?_; (first | assumption | (repeat (first | assumption | refine Fr.new ?_ _ | refine Fr.drew ?_ | (refine Fr.set ?_ (by first | exact Nat.le_refl _ | omega | (simp; done) | (simp; omega)) (by first | (simp; done) | (simp; omega)) _))); done)))
                          clear hK K
                          (try simp only [Act.put, List.setIfInBounds_toArray, List.set_cons_zero, List.set_cons_succ])
                          refine Tw_takeL (i := 6) (v := ?tv40) rfl (by kernel_rfl) (by decide) (by kernel_rfl) (by kernel_rfl) (fun _ _ _ h => h) (by rfl) ?ty40 ?tn40
                          case ty40 => (intro w hSw; (try dsimp only at hSw); go_simp <;> with_reducible rfl)
                          (try simp only [Act.put, List.setIfInBounds_toArray, List.set_cons_zero, List.set_cons_succ])
                          refine Tw_takeL (i := 7) (v := ?tv41) rfl (by kernel_rfl) (by decide) (by kernel_rfl) (by kernel_rfl) (fun _ _ _ h => h) (by rfl) ?ty41 ?tn41
                          case ty41 => (intro w hSw; (try dsimp only at hSw); go_simp <;> with_reducible rfl)
                          (try simp only [Act.put, List.setIfInBounds_toArray, List.set_cons_zero, List.set_cons_succ])
                          refine Tw_takeL (i := 8) (v := ?tv42) rfl (by kernel_rfl) (by decide) (by kernel_rfl) (by kernel_rfl) (fun _ _ _ h => h) (by rfl) ?ty42 ?tn42
                          case ty42 => (intro w hSw; (try dsimp only at hSw); go_simp <;> with_reducible rfl)
                          (try simp only [Act.put, List.setIfInBounds_toArray, List.set_cons_zero, List.set_cons_succ])
                          refine Tw_all (rs := [9]) (by kernel_rfl) (by simp) (by decide) (fun hHeld => ?_)
                          refine AllT.consL rfl (fun K hK => ?_) (AllT.nil)
                          · go_simp
                            refine hK.out _ _ ?_ ?_
                            · (try dsimp only)
                              ((go_split_ands; refine HALL.out _ ?_; (first | assumption | (repeat (first | assumption | refine Fr.new ?_ _ | refine Fr.drew ?_ | (refine Fr.set ?_ (by first | exact Nat.le_refl _ | omega | (simp; done) | (simp; omega)) (by first | (simp; done) | (simp; omega)) _))); done)))
                            clear hK K
                            (try simp only [Act.put, List.setIfInBounds_toArray, List.set_cons_zero, List.set_cons_succ])
                            refine Tw_abs ?_
                            intro wA4 hA4
                            (first | (have N1 := Lib.hid (Bk.of_alloc hA4)) | (have N1 := Lib.hid (Bk.of_alloc_drew hA4)))
                            have zg := Lib.hid (show wq.heap.size ≤ _ from hHeld.1.size)
                            (first | (have L2 := Lib.hid (Lies.alloc hA4 L2.out)) | (have L2 := Lib.hid (Lies.alloc_drew hA4 L2.out)) | skip)
                            (first | (have L4 := Lib.hid (Lies.alloc hA4 L4.out)) | (have L4 := Lib.hid (Lies.alloc_drew hA4 L4.out)) | skip)
                            clear hA4
                            refine Tw_all (rs := [10]) (by kernel_rfl) (by simp) (by decide) (fun hHeld => ?_)
                            refine AllT.consL rfl (fun K hK => ?_) (AllT.nil)
                            · have c0 := N1.out.cell 0
                              have c1 := N1.out.cell 1
                              have f0 := N1.out.frozen 0
                              have f1 := N1.out.frozen 1
                              have zN := N1.out.lt
                              go_simp
                              refine hK.out _ _ ?_ ?_
                              · exact HALL.out _ ((hHeld.1.set (p := ⟨_, 0, none⟩) zg.out (fun b hb => by simp at hb) _).set (p := ⟨_, 1, none⟩) zg.out (fun b hb => by simp at hb) _)
                              clear hK K c0 f0 c1 f1 zN
                              have N1 := Lib.hid (Bk.set2 N1.out (.int .i64 lo2) (.int .i64 hi2))
                              (try simp only [Act.put, List.setIfInBounds_toArray, List.set_cons_zero, List.set_cons_succ])
                              refine Tw_end (by kernel_rfl) (fun hh => ?_)
                              obtain ⟨F11, _⟩ := hh
                              clear HALL
                              go_wp2_with fail
                              go_meet
                              exact ⟨_, rfl, rfl, F11.more N1.out⟩
                        · go_simp
                          refine hK.out _ _ ?_ ?_
                          · (try dsimp only)
                            ((go_split_ands; refine HALL.out _ ?_; (first | assumption | (repeat (first | assumption | refine Fr.new ?_ _ | refine Fr.drew ?_ | (refine Fr.set ?_ (by first | exact Nat.le_refl _ | omega | (simp; done) | (simp; omega)) (by first | (simp; done) | (simp; omega)) _))); done)))
                          clear hK K
                          (try simp only [Act.put, List.setIfInBounds_toArray, List.set_cons_zero, List.set_cons_succ])
                          refine Tw_abs ?_
                          intro wA6 hA6
                          (first | (have N1 := Lib.hid (Bk.of_alloc hA6)) | (have N1 := Lib.hid (Bk.of_alloc_drew hA6)))
                          have zg := Lib.hid (show wq.heap.size ≤ _ from hHeld.1.size)
                          (first | (have L2 := Lib.hid (Lies.alloc hA6 L2.out)) | (have L2 := Lib.hid (Lies.alloc_drew hA6 L2.out)) | skip)
                          (first | (have L4 := Lib.hid (Lies.alloc hA6 L4.out)) | (have L4 := Lib.hid (Lies.alloc_drew hA6 L4.out)) | skip)
                          clear hA6
                          refine Tw_all (rs := [5]) (by kernel_rfl) (by simp) (by decide) (fun hHeld => ?_)
                          refine AllT.consL rfl (fun K hK => ?_) (AllT.nil)
                          · go_simp
                            (go_at_call 27; go_split_ands; (with_reducible refine (HT2.out _ _ _ _ _ L2.out L4.out).mono ?_); rintro e w7 ⟨rfl, hb7⟩; have F4 := Fr.call (by assumption) hb7; (first | (have N1 := Lib.hid (Bk.call N1.out hb7)) | skip); clear hb7)
                            refine hK.out _ _ ?_ ?_
                            · (try dsimp only)
                              ((go_split_ands; refine HALL.out _ ?_; (first | assumption | (repeat (first | assumption | refine Fr.new ?_ _ | refine Fr.drew ?_ | (refine Fr.set ?_ (by first | exact Nat.le_refl _ | omega | (simp; done) | (simp; omega)) (by first | (simp; done) | (simp; omega)) _))); done)))
                            clear hK K
                            (try simp only [Act.put, List.setIfInBounds_toArray, List.set_cons_zero, List.set_cons_succ])
                            refine Tw_takeL (i := 6) (v := ?tv43) rfl (by kernel_rfl) (by decide) (by kernel_rfl) (by kernel_rfl) (fun _ _ _ h => h) (by rfl) ?ty43 ?tn43
                            case ty43 => (intro w hSw; (try dsimp only at hSw); go_simp <;> with_reducible rfl)
                            (try simp only [Act.put, List.setIfInBounds_toArray, List.set_cons_zero, List.set_cons_succ])
                            refine Tw_takeL (i := 7) (v := ?tv44) rfl (by kernel_rfl) (by decide) (by kernel_rfl) (by kernel_rfl) (fun _ _ _ h => h) (by rfl) ?ty44 ?tn44
                            case ty44 => (intro w hSw; (try dsimp only at hSw); go_simp <;> with_reducible rfl)
                            (try simp only [Act.put, List.setIfInBounds_toArray, List.set_cons_zero, List.set_cons_succ])
                            refine Tw_takeL (i := 8) (v := ?tv45) rfl (by kernel_rfl) (by decide) (by kernel_rfl) (by kernel_rfl) (fun _ _ _ h => h) (by rfl) ?ty45 ?tn45
                            case ty45 => (intro w hSw; (try dsimp only at hSw); go_simp <;> with_reducible rfl)
                            (try simp only [Act.put, List.setIfInBounds_toArray, List.set_cons_zero, List.set_cons_succ])
                            refine Tw_all (rs := [10]) (by kernel_rfl) (by simp) (by decide) (fun hHeld => ?_)
                            refine AllT.consL rfl (fun K hK => ?_) (AllT.nil)
                            · have c0 := N1.out.cell 0
                              have c1 := N1.out.cell 1
                              have f0 := N1.out.frozen 0
                              have f1 := N1.out.frozen 1
                              have zN := N1.out.lt
                              go_simp
                              refine hK.out _ _ ?_ ?_
                              · exact HALL.out _ ((hHeld.1.set (p := ⟨_, 0, none⟩) zg.out (fun b hb => by simp at hb) _).set (p := ⟨_, 1, none⟩) zg.out (fun b hb => by simp at hb) _)
                              clear hK K c0 f0 c1 f1 zN
                              have N1 := Lib.hid (Bk.set2 N1.out (.int .i64 lo2) (.int .i64 hi2))
                              (try simp only [Act.put, List.setIfInBounds_toArray, List.set_cons_zero, List.set_cons_succ])
                              refine Tw_end (by kernel_rfl) (fun hh => ?_)
                              obtain ⟨F11, _⟩ := hh
                              clear HALL
                              go_wp2_with fail
                              go_meet
                              exact ⟨_, rfl, rfl, F11.more N1.out⟩
                      · go_simp
                        refine hK.out _ _ ?_ ?_
                        · (try dsimp only)
                          ((go_split_ands; refine HALL.out _ ?_; (first | assumption | (repeat (first | assumption | refine Fr.new ?_ _ | refine Fr.drew ?_ | (refine Fr.set ?_ (by first | exact Nat.le_refl _ | omega | (simp; done) | (simp; omega)) (by first | (simp; done) | (simp; omega)) _))); done)))
                        clear hK K
                        (try simp only [Act.put, List.setIfInBounds_toArray, List.set_cons_zero, List.set_cons_succ])
                        refine Tw_abs ?_
                        intro wA9 hA9
                        (first | (have N1 := Lib.hid (Bk.of_alloc hA9)) | (have N1 := Lib.hid (Bk.of_alloc_drew hA9)))
                        have zg := Lib.hid (show wq.heap.size ≤ _ from hHeld.1.size)
                        (first | (have L2 := Lib.hid (Lies.alloc hA9 L2.out)) | (have L2 := Lib.hid (Lies.alloc_drew hA9 L2.out)) | skip)
                        (first | (have L4 := Lib.hid (Lies.alloc hA9 L4.out)) | (have L4 := Lib.hid (Lies.alloc_drew hA9 L4.out)) | skip)
                        clear hA9
                        refine Tw_all (rs := [4]) (by kernel_rfl) (by simp) (by decide) (fun hHeld => ?_)
                        refine AllT.consL rfl (fun K hK => ?_) (AllT.nil)
                        · go_simp
                          (go_at_call 25; go_split_ands; (with_reducible refine (HCI.out _ (Fr.lies HRC.out (by assumption))).mono ?_); rintro e w7 ⟨g4, rfl, hl4, hk4, _, hb7⟩; have L4 := Lib.hid hl4; have F4 := Fr.call (by assumption) hb7; (first | (have N1 := Lib.hid (Bk.call N1.out hb7)) | skip); (first | (have L2 := Lib.hid (Lies.call L2.out hb7)) | skip); clear hb7 hl4 hk4)
                          refine hK.out _ _ ?_ ?_
                          · (try dsimp only)
                            ((go_split_ands; refine HALL.out _ ?_; (first | assumption | (repeat (first | assumption | refine Fr.new ?_ _ | refine Fr.drew ?_ | (refine Fr.set ?_ (by first | exact Nat.le_refl _ | omega | (simp; done) | (simp; omega)) (by first | (simp; done) | (simp; omega)) _))); done)))
                          clear hK K
                          (try simp only [Act.put, List.setIfInBounds_toArray, List.set_cons_zero, List.set_cons_succ])
                          refine Tw_all (rs := [5]) (by kernel_rfl) (by simp) (by decide) (fun hHeld => ?_)
                          refine AllT.consL rfl (fun K hK => ?_) (AllT.nil)
                          · go_simp
                            (go_at_call 27; go_split_ands; (with_reducible refine (HT2.out _ _ _ _ _ L2.out L4.out).mono ?_); rintro e w7 ⟨rfl, hb7⟩; have F4 := Fr.call (by assumption) hb7; (first | (have N1 := Lib.hid (Bk.call N1.out hb7)) | skip); clear hb7)
                            refine hK.out _ _ ?_ ?_
                            · (try dsimp only)
                              ((go_split_ands; refine HALL.out _ ?_; (first | assumption | (repeat (first | assumption | refine Fr.new ?_ _ | refine Fr.drew ?_ | (refine Fr.set ?_ (by first | exact Nat.le_refl _ | omega | (simp; done) | (simp; omega)) (by first | (simp; done) | (simp; omega)) _))); done)))
                            clear hK K
                            (try simp only [Act.put, List.setIfInBounds_toArray, List.set_cons_zero, List.set_cons_succ])
                            refine Tw_takeL (i := 6) (v := ?tv46) rfl (by kernel_rfl) (by decide) (by kernel_rfl) (by kernel_rfl) (fun _ _ _ h => h) (by rfl) ?ty46 ?tn46
                            case ty46 => (intro w hSw; (try dsimp only at hSw); go_simp <;> with_reducible rfl)
                            (try simp only [Act.put, List.setIfInBounds_toArray, List.set_cons_zero, List.set_cons_succ])
                            refine Tw_takeL (i := 7) (v := ?tv47) rfl (by kernel_rfl) (by decide) (by kernel_rfl) (by kernel_rfl) (fun _ _ _ h => h) (by rfl) ?ty47 ?tn47
                            case ty47 => (intro w hSw; (try dsimp only at hSw); go_simp <;> with_reducible rfl)
                            (try simp only [Act.put, List.setIfInBounds_toArray, List.set_cons_zero, List.set_cons_succ])
                            refine Tw_takeL (i := 8) (v := ?tv48) rfl (by kernel_rfl) (by decide) (by kernel_rfl) (by kernel_rfl) (fun _ _ _ h => h) (by rfl) ?ty48 ?tn48
                            case ty48 => (intro w hSw; (try dsimp only at hSw); go_simp <;> with_reducible rfl)
                            (try simp only [Act.put, List.setIfInBounds_toArray, List.set_cons_zero, List.set_cons_succ])
                            refine Tw_all (rs := [10]) (by kernel_rfl) (by simp) (by decide) (fun hHeld => ?_)
                            refine AllT.consL rfl (fun K hK => ?_) (AllT.nil)
                            · have c0 := N1.out.cell 0
                              have c1 := N1.out.cell 1
                              have f0 := N1.out.frozen 0
                              have f1 := N1.out.frozen 1
                              have zN := N1.out.lt
                              go_simp
                              refine hK.out _ _ ?_ ?_
                              · exact HALL.out _ ((hHeld.1.set (p := ⟨_, 0, none⟩) zg.out (fun b hb => by simp at hb) _).set (p := ⟨_, 1, none⟩) zg.out (fun b hb => by simp at hb) _)
                              clear hK K c0 f0 c1 f1 zN
                              have N1 := Lib.hid (Bk.set2 N1.out (.int .i64 lo2) (.int .i64 hi2))
                              (try simp only [Act.put, List.setIfInBounds_toArray, List.set_cons_zero, List.set_cons_succ])
                              refine Tw_end (by kernel_rfl) (fun hh => ?_)
                              obtain ⟨F11, _⟩ := hh
                              clear HALL
                              go_wp2_with fail
                              go_meet
                              exact ⟨_, rfl, rfl, F11.more N1.out⟩
                    · go_simp
                      refine hK.out _ _ ?_ ?_
                      · (try dsimp only)
                        ((go_split_ands; refine HALL.out _ ?_; (first | assumption | (repeat (first | assumption | refine Fr.new ?_ _ | refine Fr.drew ?_ | (refine Fr.set ?_ (by first | exact Nat.le_refl _ | omega | (simp; done) | (simp; omega)) (by first | (simp; done) | (simp; omega)) _))); done)))
                      clear hK K
                      (try simp only [Act.put, List.setIfInBounds_toArray, List.set_cons_zero, List.set_cons_succ])
                      refine Tw_abs ?_
                      intro wA13 hA13
                      (first | (have N1 := Lib.hid (Bk.of_alloc hA13)) | (have N1 := Lib.hid (Bk.of_alloc_drew hA13)))
                      have zg := Lib.hid (show wq.heap.size ≤ _ from hHeld.1.size)
                      (first | (have L2 := Lib.hid (Lies.alloc hA13 L2.out)) | (have L2 := Lib.hid (Lies.alloc_drew hA13 L2.out)) | skip)
                      (first | (have L4 := Lib.hid (Lies.alloc hA13 L4.out)) | (have L4 := Lib.hid (Lies.alloc_drew hA13 L4.out)) | skip)
                      clear hA13
                      refine Tw_all (rs := [1]) (by kernel_rfl) (by simp) (by decide) (fun hHeld => ?_)
                      refine AllT.consL rfl (fun K hK => ?_) (AllT.nil)
                      · go_simp
                        (go_at_call 13; go_split_ands; (with_reducible refine (Copy_any s ps ⟨(some a), c⟩ (by omega) HG.out _ (Fr.lies HAC.out (by assumption))).mono ?_); rintro e w7 ⟨g2, rfl, hl2, hk2, hb7⟩; have L2 := Lib.hid hl2; have F4 := Fr.call (by assumption) hb7; (first | (have N1 := Lib.hid (Bk.call N1.out hb7)) | skip); (first | (have L4 := Lib.hid (Lies.call L4.out hb7)) | skip); clear hb7 hl2 hk2)
                        refine hK.out _ _ ?_ ?_
                        · (try dsimp only)
                          ((go_split_ands; refine HALL.out _ ?_; (first | assumption | (repeat (first | assumption | refine Fr.new ?_ _ | refine Fr.drew ?_ | (refine Fr.set ?_ (by first | exact Nat.le_refl _ | omega | (simp; done) | (simp; omega)) (by first | (simp; done) | (simp; omega)) _))); done)))
                        clear hK K
                        (try simp only [Act.put, List.setIfInBounds_toArray, List.set_cons_zero, List.set_cons_succ])
                        refine Tw_all (rs := [4]) (by kernel_rfl) (by simp) (by decide) (fun hHeld => ?_)
                        refine AllT.consL rfl (fun K hK => ?_) (AllT.nil)
                        · go_simp
                          (go_at_call 25; go_split_ands; (with_reducible refine (HCI.out _ (Fr.lies HRC.out (by assumption))).mono ?_); rintro e w7 ⟨g4, rfl, hl4, hk4, _, hb7⟩; have L4 := Lib.hid hl4; have F4 := Fr.call (by assumption) hb7; (first | (have N1 := Lib.hid (Bk.call N1.out hb7)) | skip); (first | (have L2 := Lib.hid (Lies.call L2.out hb7)) | skip); clear hb7 hl4 hk4)
                          refine hK.out _ _ ?_ ?_
                          · (try dsimp only)
                            ((go_split_ands; refine HALL.out _ ?_; (first | assumption | (repeat (first | assumption | refine Fr.new ?_ _ | refine Fr.drew ?_ | (refine Fr.set ?_ (by first | exact Nat.le_refl _ | omega | (simp; done) | (simp; omega)) (by first | (simp; done) | (simp; omega)) _))); done)))
                          clear hK K
                          (try simp only [Act.put, List.setIfInBounds_toArray, List.set_cons_zero, List.set_cons_succ])
                          refine Tw_all (rs := [5]) (by kernel_rfl) (by simp) (by decide) (fun hHeld => ?_)
                          refine AllT.consL rfl (fun K hK => ?_) (AllT.nil)
                          · go_simp
                            (go_at_call 27; go_split_ands; (with_reducible refine (HT2.out _ _ _ _ _ L2.out L4.out).mono ?_); rintro e w7 ⟨rfl, hb7⟩; have F4 := Fr.call (by assumption) hb7; (first | (have N1 := Lib.hid (Bk.call N1.out hb7)) | skip); clear hb7)
                            refine hK.out _ _ ?_ ?_
                            · (try dsimp only)
                              ((go_split_ands; refine HALL.out _ ?_; (first | assumption | (repeat (first | assumption | refine Fr.new ?_ _ | refine Fr.drew ?_ | (refine Fr.set ?_ (by first | exact Nat.le_refl _ | omega | (simp; done) | (simp; omega)) (by first | (simp; done) | (simp; omega)) _))); done)))
                            clear hK K
                            (try simp only [Act.put, List.setIfInBounds_toArray, List.set_cons_zero, List.set_cons_succ])
                            refine Tw_takeL (i := 6) (v := ?tv49) rfl (by kernel_rfl) (by decide) (by kernel_rfl) (by kernel_rfl) (fun _ _ _ h => h) (by rfl) ?ty49 ?tn49
                            case ty49 => (intro w hSw; (try dsimp only at hSw); go_simp <;> with_reducible rfl)
                            (try simp only [Act.put, List.setIfInBounds_toArray, List.set_cons_zero, List.set_cons_succ])
                            refine Tw_takeL (i := 7) (v := ?tv50) rfl (by kernel_rfl) (by decide) (by kernel_rfl) (by kernel_rfl) (fun _ _ _ h => h) (by rfl) ?ty50 ?tn50
                            case ty50 => (intro w hSw; (try dsimp only at hSw); go_simp <;> with_reducible rfl)
                            (try simp only [Act.put, List.setIfInBounds_toArray, List.set_cons_zero, List.set_cons_succ])
                            refine Tw_takeL (i := 8) (v := ?tv51) rfl (by kernel_rfl) (by decide) (by kernel_rfl) (by kernel_rfl) (fun _ _ _ h => h) (by rfl) ?ty51 ?tn51
                            case ty51 => (intro w hSw; (try dsimp only at hSw); go_simp <;> with_reducible rfl)
                            (try simp only [Act.put, List.setIfInBounds_toArray, List.set_cons_zero, List.set_cons_succ])
                            refine Tw_all (rs := [10]) (by kernel_rfl) (by simp) (by decide) (fun hHeld => ?_)
                            refine AllT.consL rfl (fun K hK => ?_) (AllT.nil)
                            · have c0 := N1.out.cell 0
                              have c1 := N1.out.cell 1
                              have f0 := N1.out.frozen 0
                              have f1 := N1.out.frozen 1
                              have zN := N1.out.lt
                              go_simp
                              refine hK.out _ _ ?_ ?_
                              · exact HALL.out _ ((hHeld.1.set (p := ⟨_, 0, none⟩) zg.out (fun b hb => by simp at hb) _).set (p := ⟨_, 1, none⟩) zg.out (fun b hb => by simp at hb) _)
                              clear hK K c0 f0 c1 f1 zN
                              have N1 := Lib.hid (Bk.set2 N1.out (.int .i64 lo2) (.int .i64 hi2))
                              (try simp only [Act.put, List.setIfInBounds_toArray, List.set_cons_zero, List.set_cons_succ])
                              refine Tw_end (by kernel_rfl) (fun hh => ?_)
                              obtain ⟨F11, _⟩ := hh
                              clear HALL
                              go_wp2_with fail
                              go_meet
                              exact ⟨_, rfl, rfl, F11.more N1.out⟩
                  case rest =>
                    obtain ⟨wb1, rfl⟩ : ∃ W, W = wc := ⟨_, rfl⟩
                    obtain ⟨gr, rfl, rfl, hx⟩ := hcut
                    have FB1 := Lib.hid (FQ.out.call hx.bl)
                    have Y6 := Lib.hid (Lies.call Y6.out hx.bl)
                    have HX1 := Lib.hid hx
                    clear hx FQ
                    obtain ⟨k0_0, k0_1, kf0, kg0⟩ := (FB1.out.get 3 rfl).two
                    have kz0 := (FB1.out.get 3 rfl).lt
                    obtain ⟨k1_0, k1_1, k1_2⟩ := (FB1.out.get 2 rfl).three
                    have kz1 := (FB1.out.get 2 rfl).lt
                    obtain ⟨k2_0, k2_1, k2_2, k2_3⟩ := (FB1.out.get 1 rfl).four
                    have kz2 := (FB1.out.get 1 rfl).lt
                    obtain ⟨k3_0, k3_1, kf3, kg3⟩ := (FB1.out.get 0 rfl).two
                    have kz3 := (FB1.out.get 0 rfl).lt
                    have FR := Lib.hid (FB1.out.more HX1.out.top)
                    clear FB1 HX1
                    obtain ⟨k4_0, k4_1, kf4, kg4⟩ := (FR.out.get 0 rfl).two
                    have kz4 := (FR.out.get 0 rfl).lt
                    go_upto_region 22 with fail
                    go_cut [218] from 199 to 218 (fun r W => r = .bool false ∧ Fr wb1 W [])
                    case first =>
                      rcases HBT.out with rfl | ⟨rfl, rfl, h1, h2⟩
                      · go_wp2_with fail
                        go_meet
                        exact ⟨rfl, Fr.nil _⟩
                      · have g1 : decide (lo2 < lo1) = false := decide_eq_false (by omega)
                        have g2 : decide (hi2 < hi1) = false := decide_eq_false (by omega)
                        have g3 : ¬ lo2 < lo1 := by omega
                        have g4 : ¬ hi2 < hi1 := by omega
                        go_wp2_with fail
                        go_meet
                        exact ⟨rfl, Fr.nil _⟩
                    case rest =>
                      obtain ⟨w22, rfl⟩ : ∃ W, W = wc := ⟨_, rfl⟩
                      obtain ⟨rfl, hx⟩ := hcut
                      have FS := Lib.hid (FR.out.call hx.bl)
                      have Y6 := Lib.hid (Lies.call Y6.out hx.bl)
                      clear hx FR k0_0 k0_1 kf0 kg0 kz0 k1_0 k1_1 k1_2 kz1 k2_0 k2_1 k2_2 k2_3 kz2 k3_0 k3_1 kf3 kg3 kz3 k4_0 k4_1 kf4 kg4 kz4
                      have FS := Lib.hid FS.out.tail.tail
                      obtain ⟨k0_0, k0_1, kf0, kg0⟩ := (FS.out.get 2 rfl).two
                      have kz0 := (FS.out.get 2 rfl).lt
                      obtain ⟨k1_0, k1_1, k1_2⟩ := (FS.out.get 1 rfl).three
                      have kz1 := (FS.out.get 1 rfl).lt
                      obtain ⟨k2_0, k2_1, k2_2, k2_3⟩ := (FS.out.get 0 rfl).four
                      have kz2 := (FS.out.get 0 rfl).lt
                      go_upto_region 24 with fail
                      clear k0_0 k0_1 kf0 kg0 kz0 k1_0 k1_1 k1_2 kz1 k2_0 k2_1 k2_2 k2_3 kz2
                      go_cut [20, 21] from 219 to 237 (fun r e W => (∃ g : Hd, r = .slice g.A (N : Nat) g.c ∧ e = .int .i64 0 ∧ Lies W W.heap.size g.A (ic (listF N (fwV ps b e0 e2)))) ∧ Fr w22 W [])
                      case first =>
                        have HALL : Hid (∀ W, Fr w22 W [] → Fr w22 W [] ∧ W.cell? ⟨w.heap.size, 0, none⟩ = some (.string s) ∧ W.cell? ⟨w.heap.size, 1, none⟩ = some (.slice (some a) ps.length c) ∧ W.cell? ⟨w.heap.size + 1, 0, none⟩ = some (.int .i64 b.brk) ∧ W.cell? ⟨w.heap.size + 1, 1, none⟩ = some (.int .i64 b.drag) ∧ W.cell? ⟨w.heap.size + 1, 2, none⟩ = some (.int .i64 b.drv) ∧ W.cell? ⟨w.heap.size + 1 + 1, 0, none⟩ = some (.int .i64 e0) ∧ W.cell? ⟨w.heap.size + 1 + 1, 1, none⟩ = some (.int .i64 e1) ∧ W.cell? ⟨w.heap.size + 1 + 1, 2, none⟩ = some (.slice (some ar) NR cr) ∧ W.cell? ⟨w.heap.size + 1 + 1, 3, none⟩ = some (.int .i64 mr)) := Lib.hid (fun W hW => ⟨hW, ((FS.out.get 2 rfl).call hW.bl).cell 0, ((FS.out.get 2 rfl).call hW.bl).cell 1, ((FS.out.get 1 rfl).call hW.bl).cell 0, ((FS.out.get 1 rfl).call hW.bl).cell 1, ((FS.out.get 1 rfl).call hW.bl).cell 2, ((FS.out.get 0 rfl).call hW.bl).cell 0, ((FS.out.get 0 rfl).call hW.bl).cell 1, ((FS.out.get 0 rfl).call hW.bl).cell 2, ((FS.out.get 0 rfl).call hW.bl).cell 3⟩)
                        have HAC := Lib.hid (Fr.lies HA.out FS.out); have HRC := Lib.hid (Fr.lies HLR.out FS.out)
                        have F10 : Fr w22 _ [] := Fr.nil w22
                        rcases Int.lt_trichotomy v 20000000000 with hv | hv | hv
                        · have hv2 := hv
                          have hv3 : ((20000000000 : Int) < v) = False := eq_false (by omega)
                          have hv4 : ((20000000000 : Int) ≤ v) = False := eq_false (by omega)
                          have hv5 : v ≤ 20000000000 := by omega
                          obtain rfl : e2 = v := by have := HE2.out; omega
                          go_region_held3 (fun W => Fr w22 W [] ∧ W.cell? ⟨w.heap.size, 0, none⟩ = some (.string s) ∧ W.cell? ⟨w.heap.size, 1, none⟩ = some (.slice (some a) ps.length c) ∧ W.cell? ⟨w.heap.size + 1, 0, none⟩ = some (.int .i64 b.brk) ∧ W.cell? ⟨w.heap.size + 1, 1, none⟩ = some (.int .i64 b.drag) ∧ W.cell? ⟨w.heap.size + 1, 2, none⟩ = some (.int .i64 b.drv) ∧ W.cell? ⟨w.heap.size + 1 + 1, 0, none⟩ = some (.int .i64 e0) ∧ W.cell? ⟨w.heap.size + 1 + 1, 1, none⟩ = some (.int .i64 e1) ∧ W.cell? ⟨w.heap.size + 1 + 1, 2, none⟩ = some (.slice (some ar) NR cr) ∧ W.cell? ⟨w.heap.size + 1 + 1, 3, none⟩ = some (.int .i64 mr))
                              ((go_split_ands; refine HALL.out _ ?_; (first | assumption | (repeat (first | assumption | refine Fr.new ?_ _ | refine Fr.drew ?_ | (refine Fr.set ?_ (by first | exact Nat.le_refl _ | omega | (simp; done) | (simp; omega)) (by first | (simp; done) | (simp; omega)) _))); done)))
                              ((first
                                | (go_at_call 13; go_split_ands; (with_reducible refine (Copy_any s ps ⟨(some a), c⟩ (by omega) HG.out _ (Fr.lies HAC.out (by assumption))).mono ?_); rintro e w1 ⟨g2, rfl, hl2, hk2, hb1⟩; have HL2 := Lib.hid hl2; have F4 := Fr.call (by assumption) hb1; clear hb1 hl2 hk2)
                                | (go_at_call 28; (with_reducible refine (HMOD.out _).mono ?_); rintro e w' ⟨rfl, rfl⟩)
                                | (go_at_call 21; go_split_ands; (with_reducible refine (HFB.out _ _ _ HL2.out).mono ?_); rintro e w1 ⟨g3, rfl, hl3, hb1⟩; have HL3 := Lib.hid hl3; have F5 := Fr.call (by assumption) hb1; clear hb1 hl3)
                                | fail "arm"))
                          all_goals
                            go_split_ands
                            go_wp2_with fail
                            go_meet
                            exact ⟨⟨g3, rfl, rfl, HL3.out⟩, by assumption⟩
                        · have hv2 := hv
                          subst hv
                          obtain rfl : e2 = 20000000000 := by have := HE2.out; omega
                          go_region_held3 (fun W => Fr w22 W [] ∧ W.cell? ⟨w.heap.size, 0, none⟩ = some (.string s) ∧ W.cell? ⟨w.heap.size, 1, none⟩ = some (.slice (some a) ps.length c) ∧ W.cell? ⟨w.heap.size + 1, 0, none⟩ = some (.int .i64 b.brk) ∧ W.cell? ⟨w.heap.size + 1, 1, none⟩ = some (.int .i64 b.drag) ∧ W.cell? ⟨w.heap.size + 1, 2, none⟩ = some (.int .i64 b.drv) ∧ W.cell? ⟨w.heap.size + 1 + 1, 0, none⟩ = some (.int .i64 e0) ∧ W.cell? ⟨w.heap.size + 1 + 1, 1, none⟩ = some (.int .i64 e1) ∧ W.cell? ⟨w.heap.size + 1 + 1, 2, none⟩ = some (.slice (some ar) NR cr) ∧ W.cell? ⟨w.heap.size + 1 + 1, 3, none⟩ = some (.int .i64 mr))
                              ((go_split_ands; refine HALL.out _ ?_; (first | assumption | (repeat (first | assumption | refine Fr.new ?_ _ | refine Fr.drew ?_ | (refine Fr.set ?_ (by first | exact Nat.le_refl _ | omega | (simp; done) | (simp; omega)) (by first | (simp; done) | (simp; omega)) _))); done)))
                              ((first
                                | (go_at_call 13; go_split_ands; (with_reducible refine (Copy_any s ps ⟨(some a), c⟩ (by omega) HG.out _ (Fr.lies HAC.out (by assumption))).mono ?_); rintro e w1 ⟨g2, rfl, hl2, hk2, hb1⟩; have HL2 := Lib.hid hl2; have F4 := Fr.call (by assumption) hb1; clear hb1 hl2 hk2)
                                | (go_at_call 28; (with_reducible refine (HMOD.out _).mono ?_); rintro e w' ⟨rfl, rfl⟩)
                                | (go_at_call 21; go_split_ands; (with_reducible refine (HFB.out _ _ _ HL2.out).mono ?_); rintro e w1 ⟨g3, rfl, hl3, hb1⟩; have HL3 := Lib.hid hl3; have F5 := Fr.call (by assumption) hb1; clear hb1 hl3)
                                | fail "arm"))
                          all_goals
                            go_split_ands
                            go_wp2_with fail
                            go_meet
                            exact ⟨⟨g3, rfl, rfl, HL3.out⟩, by assumption⟩
                        · have hv2 := hv
                          have hv3 : (v < (20000000000 : Int)) = False := eq_false (by omega)
                          have hv4 : (v ≤ (20000000000 : Int)) = False := eq_false (by omega)
                          have hv5 : (20000000000 : Int) ≤ v := by omega
                          obtain rfl : e2 = 20000000000 := by have := HE2.out; omega
                          go_region_held3 (fun W => Fr w22 W [] ∧ W.cell? ⟨w.heap.size, 0, none⟩ = some (.string s) ∧ W.cell? ⟨w.heap.size, 1, none⟩ = some (.slice (some a) ps.length c) ∧ W.cell? ⟨w.heap.size + 1, 0, none⟩ = some (.int .i64 b.brk) ∧ W.cell? ⟨w.heap.size + 1, 1, none⟩ = some (.int .i64 b.drag) ∧ W.cell? ⟨w.heap.size + 1, 2, none⟩ = some (.int .i64 b.drv) ∧ W.cell? ⟨w.heap.size + 1 + 1, 0, none⟩ = some (.int .i64 e0) ∧ W.cell? ⟨w.heap.size + 1 + 1, 1, none⟩ = some (.int .i64 e1) ∧ W.cell? ⟨w.heap.size + 1 + 1, 2, none⟩ = some (.slice (some ar) NR cr) ∧ W.cell? ⟨w.heap.size + 1 + 1, 3, none⟩ = some (.int .i64 mr))
                              ((go_split_ands; refine HALL.out _ ?_; (first | assumption | (repeat (first | assumption | refine Fr.new ?_ _ | refine Fr.drew ?_ | (refine Fr.set ?_ (by first | exact Nat.le_refl _ | omega | (simp; done) | (simp; omega)) (by first | (simp; done) | (simp; omega)) _))); done)))
                              ((first
                                | (go_at_call 13; go_split_ands; (with_reducible refine (Copy_any s ps ⟨(some a), c⟩ (by omega) HG.out _ (Fr.lies HAC.out (by assumption))).mono ?_); rintro e w1 ⟨g2, rfl, hl2, hk2, hb1⟩; have HL2 := Lib.hid hl2; have F4 := Fr.call (by assumption) hb1; clear hb1 hl2 hk2)
                                | (go_at_call 28; (with_reducible refine (HMOD.out _).mono ?_); rintro e w' ⟨rfl, rfl⟩)
                                | (go_at_call 21; go_split_ands; (with_reducible refine (HFB.out _ _ _ HL2.out).mono ?_); rintro e w1 ⟨g3, rfl, hl3, hb1⟩; have HL3 := Lib.hid hl3; have F5 := Fr.call (by assumption) hb1; clear hb1 hl3)
                                | fail "arm"))
                          all_goals
                            go_split_ands
                            go_wp2_with fail
                            go_meet
                            exact ⟨⟨g3, rfl, rfl, HL3.out⟩, by assumption⟩
                      case rest =>
                        obtain ⟨wx7, rfl⟩ : ∃ W, W = wc := ⟨_, rfl⟩
                        obtain ⟨⟨gy, rfl, rfl, hyy⟩, hx⟩ := hcut
                        have FC7 := Lib.hid (FS.out.call hx.bl)
                        have Y6 := Lib.hid (Lies.call Y6.out hx.bl)
                        clear hx FS
                        obtain ⟨k0_0, k0_1, kf0, kg0⟩ := (FC7.out.get 2 rfl).two
                        have kz0 := (FC7.out.get 2 rfl).lt
                        obtain ⟨k1_0, k1_1, k1_2⟩ := (FC7.out.get 1 rfl).three
                        have kz1 := (FC7.out.get 1 rfl).lt
                        obtain ⟨k2_0, k2_1, k2_2, k2_3⟩ := (FC7.out.get 0 rfl).four
                        have kz2 := (FC7.out.get 0 rfl).lt
                        have YY := Lib.hid hyy
                        clear hyy
                        obtain ⟨Ay, cy⟩ := gy
                        obtain ⟨ly, ey, _, _⟩ := YY.out.num (listF_at (n := N) (f := fwV ps b e0 e2) (k := 0) (by have := HNN.out; omega))
                        try simp only at ey
                        subst ey
                        clear k0_0 k0_1 kf0 kg0 kz0 k1_0 k1_1 k1_2 kz1 k2_0 k2_1 k2_2 k2_3 kz2
                        have FZ := FC7
                        clear FC7
                        go_wp2_with fail
                        go_loopw [22] (fun i wr => ∃ t : Nat, t ≤ N ∧ i = .int .i64 (t : Int) ∧ Fr wx7 wr []) (fun i _ => N + 1 - (intOf i).toNat)
                        case atStart => exact ⟨0, Nat.zero_le _, rfl, Fr.nil wx7⟩
                        case round =>
                          obtain ⟨t, ht, rfl, hf⟩ := hrel
                          have HT := Lib.hid hf
                          by_cases hlt : t < N
                          · have hlt2 : (t : Int) < (N : Int) := by omega
                            have hlt3 : (t : Int) ≤ (ps.length : Int) := by have := HNN.out; omega
                            have hlt4 : t ≤ ps.length := by have := HNN.out; omega
                            have hwt := IntWalk.i64_in ((t : Int) + 1) (by omega)
                            have cA := list_cell4 (Lies.call YY.out hf.bl) hlt
                            have cB := list_cell4 (Lies.call Y6.out hf.bl) hlt
                            have hle := fw_mono (ps := ps) (b := b) (e0 := e0) HEE.out t
                            obtain ⟨x, hx⟩ : ∃ x, fwV ps b e0 e1 t = x := ⟨_, rfl⟩
                            obtain ⟨y, hy⟩ : ∃ y, fwV ps b e0 e2 t = y := ⟨_, rfl⟩
                            rw [hx] at cB hle
                            rw [hy] at cA hle
                            have hd : decide (y < x) = false := decide_eq_false (by omega)
                            have hd2 : ¬ y < x := by omega
                            clear hx hy hle hf
                            go_upto_region 30 with fail
                            go_cut [260] from 252 to 260 (fun r W => r = .bool false ∧ Fr wx7 W [])
                            case first =>
                              go_quiet (fail)
                              go_wp2_with fail
                              go_meet
                              exact ⟨rfl, HT.out.call (below_drewN (Below.refl _ _) _)⟩
                            case rest =>
                            obtain ⟨wu, rfl⟩ : ∃ W, W = wc := ⟨_, rfl⟩
                            obtain ⟨rfl, hxu⟩ := hcut
                            have HT2 := Lib.hid hxu
                            clear hxu
                            go_wp2_with fail
                            go_roundw
                            case rel => exact ⟨t + 1, by omega, rfl, HT2.out⟩
                            case measure => simp [intOf] <;> omega
                          · have hge : ¬ ((t : Int) ≤ (ps.length : Int)) := by have := HNN.out; omega
                            have hge2 : ¬ (t ≤ ps.length) := by have := HNN.out; omega
                            go_wp2_with fail
                            go_ret
                            exact ⟨rfl, (FZ.out.call HT.out.bl).bl⟩

set_option maxHeartbeats 8000000 in
set_option maxRecDepth 100000 in
theorem BrakeNoFaster_any (s : ByteArray) (hs : s.size ≤ maxLen) (ps : List Bp) (A : Option Addr) (c : Nat) (hg : HdOk ⟨A, c⟩) (hl : ps.length ≤ maxLen) (b : Bs) (e0 e1 mr : Int) (rl : List Int) (R : Option Addr) (cr : Nat) (hgr : HdOk ⟨R, cr⟩) (hlr : rl.length ≤ maxLen) (hmr : I64 mr) (w : World) (hA : Lies w w.heap.size A (ps.flatMap pc)) (hR : Lies w w.heap.size R (ic rl)) : Calls Try.prog 6 #[.agg #[.string s, .slice A ps.length c], .agg #[.int .i64 b.brk, .int .i64 b.drag, .int .i64 b.drv], .agg #[.int .i64 e0, .int .i64 e1, .slice R rl.length cr, .int .i64 mr]] w fun e w' => e = .returned (.bool true) ∧ Below w.heap.size w w' := by
  cases hsh : shortB s ps with
  | false => exact nf_long s hs ps A c hg hl b e0 e1 mr rl R cr hgr hlr hsh w hA hR
  | true =>
    by_cases h0 : bothE s ps b = 0
    · by_cases h1 : sqE [e0, e1] = 0
      · by_cases h16 : 16 < rl.length
        · exact nf_big s hs ps A c hg hl b e0 e1 mr rl R cr hgr hlr hsh h0 h1 h16 w hA hR
        · cases hf : fasB ps b e0 e1 with
          | false => exact nf_no s hs ps A c hg hl b e0 e1 mr rl R cr hgr hlr hsh h0 h1 (by omega) hf w hA hR
          | true => exact nf_yes s hs ps A c hg hl b e0 e1 mr rl R cr hgr hlr hsh h0 h1 (by omega) hf hmr w hA hR
      · exact nf_bad1 s hs ps A c hg hl b e0 e1 mr rl R cr hgr hlr hsh h0 h1 w hA hR
    · exact nf_bad0 s hs ps A c hg hl b e0 e1 mr rl R cr hgr hlr hsh h0 w hA hR
end Go.Proofs.Ytbicmbnhlnmdfaa
