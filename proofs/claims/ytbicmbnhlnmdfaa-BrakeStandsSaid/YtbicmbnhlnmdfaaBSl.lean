
/-
  The walk of BrakeStands.
-/
import Derived.Test.YtbicmbnhlnmdfaaBKit
import Derived.Test.YtbicmbnhlnmdfaaBErr
import Derived.Test.YtbicmbnhlnmdfaaBSp
import Derived.Test.YtbicmbnhlnmdfaaTFrx
namespace Go.Proofs.Ytbicmbnhlnmdfaa
open Go.RowKit
theorem ne_old {W : World} {A : Option Addr} {g : Nat} {t : TypeId} {cs : Array Value} (h : ∀ a, A = some a → W.heap.size ≤ a.block) (hb : Bk W g t cs) : ∀ a, A = some a → g ≠ a.block := fun a e => by
  have h1 := h a e
  have h2 := hb.lt
  omega
theorem ne_new {W : World} {A : Option Addr} {l : List Bp} (h : Lies W W.heap.size A (l.flatMap pc)) (hn : l.length ≠ 0) : ∀ a, A = some a → W.heap.size ≠ a.block := fun a e => by
  obtain ⟨a2, e2, hb, _⟩ := h.piece (gp_at (i := 0) (by omega))
  rw [e] at e2
  injection e2 with e2
  subst e2
  omega
theorem Lies.far2b {W : World} {A : Option Addr} {vs : List Value} {g : Nat} (h : Lies W W.heap.size A vs) (hn : ∀ a, A = some a → g ≠ a.block) (x y : Value) : Lies ((W.setCell ⟨g, 0, none⟩ x).setCell ⟨g, 1, none⟩ y) ((W.setCell ⟨g, 0, none⟩ x).setCell ⟨g, 1, none⟩ y).heap.size A vs :=
  ((h.far (q := ⟨g, 0, none⟩) hn x).far (q := ⟨g, 1, none⟩) hn y).more (by simp)

set_option maxHeartbeats 3200000 in
set_option maxRecDepth 100000 in
theorem ws_long (s : ByteArray) (hs : s.size ≤ maxLen) (ps : List Bp) (A : Option Addr) (c : Nat) (hg : HdOk ⟨A, c⟩) (hl : ps.length ≤ maxLen) (b : Bs) (s2 : ByteArray) (hs2 : s2.size ≤ maxLen) (ps2 : List Bp) (A2 : Option Addr) (c2 : Nat) (hg2 : HdOk ⟨A2, c2⟩) (hl2 : ps2.length ≤ maxLen) (p sq : Int) (hsh : shortB s ps = false) (w : World) (hA : Lies w w.heap.size A (ps.flatMap pc)) (hA2 : Lies w w.heap.size A2 (ps2.flatMap pc)) : Calls Try.prog 4 #[.agg #[.string s, .slice A ps.length c], .agg #[.int .i64 b.brk, .int .i64 b.drag, .int .i64 b.drv], .agg #[.int .i64 p, .int .i64 sq, .string s2, .slice A2 ps2.length c2]] w fun e w' => e = .returned (.bool true) ∧ Below w.heap.size w w' := by
  have F0 := Lib.hid (Fr.b3 w 24 #[.string s, .slice A ps.length c] 26 #[.int .i64 b.brk, .int .i64 b.drag, .int .i64 b.drv] 53 #[.int .i64 p, .int .i64 sq, .string s2, .slice A2 ps2.length c2])
  have HA := Lib.hid hA
  have HG := Lib.hid hg
  have HA2 := Lib.hid hA2
  have HG2 := Lib.hid hg2
  clear hA hg hA2 hg2
  have HSH := Lib.hid hsh
  clear hsh
  go_enter Try.func4, Try.ntmps4
  go_wp2_with fail
  refine (awake_any _).mono ?_
  rintro e w1 ⟨rfl, hb1⟩
  have G1 := Fr.call F0.out hb1
  obtain ⟨k0_0, k0_1, kf0, kg0⟩ := (G1.get 2 rfl).two
  have kz0 := (G1.get 2 rfl).lt
  obtain ⟨k1_0, k1_1, k1_2⟩ := (G1.get 1 rfl).three
  have kz1 := (G1.get 1 rfl).lt
  obtain ⟨k2_0, k2_1, k2_2, k2_3⟩ := (G1.get 0 rfl).four
  have kz2 := (G1.get 0 rfl).lt
  have F1 : Hid (Fr w _ [(w.heap.size + 1 + 1, 53, #[.int .i64 p, .int .i64 sq, .string s2, .slice A2 ps2.length c2]), (w.heap.size + 1, 26, #[.int .i64 b.brk, .int .i64 b.drag, .int .i64 b.drv]), (w.heap.size, 24, #[.string s, .slice A ps.length c])]) := Lib.hid G1
  clear hb1 G1 F0
  go_wp2_with fail
  refine (Short_any s hs ps A c hl _).mono ?_
  rintro e w2 ⟨rfl, hb2⟩
  rw [HSH.out]
  clear k0_0 k0_1 kf0 kg0 kz0 k1_0 k1_1 k1_2 kz1 k2_0 k2_1 k2_2 k2_3 kz2
  have G2 := Fr.call F1.out hb2
  obtain ⟨k0_0, k0_1, kf0, kg0⟩ := (G2.get 2 rfl).two
  have kz0 := (G2.get 2 rfl).lt
  obtain ⟨k1_0, k1_1, k1_2⟩ := (G2.get 1 rfl).three
  have kz1 := (G2.get 1 rfl).lt
  obtain ⟨k2_0, k2_1, k2_2, k2_3⟩ := (G2.get 0 rfl).four
  have kz2 := (G2.get 0 rfl).lt
  have F2 : Hid (Fr w _ [(w.heap.size + 1 + 1, 53, #[.int .i64 p, .int .i64 sq, .string s2, .slice A2 ps2.length c2]), (w.heap.size + 1, 26, #[.int .i64 b.brk, .int .i64 b.drag, .int .i64 b.drv]), (w.heap.size, 24, #[.string s, .slice A ps.length c])]) := Lib.hid G2
  clear hb2 G2 F1
  go_wp2_with fail
  go_ret
  first | exact ⟨rfl, F2.out.bl⟩ | exact ⟨rfl, (F2.out.new _).bl⟩

set_option maxHeartbeats 3200000 in
set_option maxRecDepth 100000 in
theorem ws_long2 (s : ByteArray) (hs : s.size ≤ maxLen) (ps : List Bp) (A : Option Addr) (c : Nat) (hg : HdOk ⟨A, c⟩) (hl : ps.length ≤ maxLen) (b : Bs) (s2 : ByteArray) (hs2 : s2.size ≤ maxLen) (ps2 : List Bp) (A2 : Option Addr) (c2 : Nat) (hg2 : HdOk ⟨A2, c2⟩) (hl2 : ps2.length ≤ maxLen) (p sq : Int) (hsh : shortB s ps = true) (hsh2 : shortB s2 ps2 = false) (w : World) (hA : Lies w w.heap.size A (ps.flatMap pc)) (hA2 : Lies w w.heap.size A2 (ps2.flatMap pc)) : Calls Try.prog 4 #[.agg #[.string s, .slice A ps.length c], .agg #[.int .i64 b.brk, .int .i64 b.drag, .int .i64 b.drv], .agg #[.int .i64 p, .int .i64 sq, .string s2, .slice A2 ps2.length c2]] w fun e w' => e = .returned (.bool true) ∧ Below w.heap.size w w' := by
  have F0 := Lib.hid (Fr.b3 w 24 #[.string s, .slice A ps.length c] 26 #[.int .i64 b.brk, .int .i64 b.drag, .int .i64 b.drv] 53 #[.int .i64 p, .int .i64 sq, .string s2, .slice A2 ps2.length c2])
  have HA := Lib.hid hA
  have HG := Lib.hid hg
  have HA2 := Lib.hid hA2
  have HG2 := Lib.hid hg2
  clear hA hg hA2 hg2
  have HSH := Lib.hid hsh
  have HSH2 := Lib.hid hsh2
  clear hsh hsh2
  go_enter Try.func4, Try.ntmps4
  go_wp2_with fail
  refine (awake_any _).mono ?_
  rintro e w1 ⟨rfl, hb1⟩
  have G1 := Fr.call F0.out hb1
  obtain ⟨k0_0, k0_1, kf0, kg0⟩ := (G1.get 2 rfl).two
  have kz0 := (G1.get 2 rfl).lt
  obtain ⟨k1_0, k1_1, k1_2⟩ := (G1.get 1 rfl).three
  have kz1 := (G1.get 1 rfl).lt
  obtain ⟨k2_0, k2_1, k2_2, k2_3⟩ := (G1.get 0 rfl).four
  have kz2 := (G1.get 0 rfl).lt
  have F1 : Hid (Fr w _ [(w.heap.size + 1 + 1, 53, #[.int .i64 p, .int .i64 sq, .string s2, .slice A2 ps2.length c2]), (w.heap.size + 1, 26, #[.int .i64 b.brk, .int .i64 b.drag, .int .i64 b.drv]), (w.heap.size, 24, #[.string s, .slice A ps.length c])]) := Lib.hid G1
  clear hb1 G1 F0
  go_wp2_with fail
  refine (Short_any s hs ps A c hl _).mono ?_
  rintro e w2 ⟨rfl, hb2⟩
  rw [HSH.out]
  clear k0_0 k0_1 kf0 kg0 kz0 k1_0 k1_1 k1_2 kz1 k2_0 k2_1 k2_2 k2_3 kz2
  have G2 := Fr.call F1.out hb2
  obtain ⟨k0_0, k0_1, kf0, kg0⟩ := (G2.get 2 rfl).two
  have kz0 := (G2.get 2 rfl).lt
  obtain ⟨k1_0, k1_1, k1_2⟩ := (G2.get 1 rfl).three
  have kz1 := (G2.get 1 rfl).lt
  obtain ⟨k2_0, k2_1, k2_2, k2_3⟩ := (G2.get 0 rfl).four
  have kz2 := (G2.get 0 rfl).lt
  have F2 : Hid (Fr w _ [(w.heap.size + 1 + 1, 53, #[.int .i64 p, .int .i64 sq, .string s2, .slice A2 ps2.length c2]), (w.heap.size + 1, 26, #[.int .i64 b.brk, .int .i64 b.drag, .int .i64 b.drv]), (w.heap.size, 24, #[.string s, .slice A ps.length c])]) := Lib.hid G2
  clear hb2 G2 F1
  go_wp2_with fail
  refine (Short_any s2 hs2 ps2 A2 c2 hl2 _).mono ?_
  rintro e w3 ⟨rfl, hb3⟩
  rw [HSH2.out]
  clear k0_0 k0_1 kf0 kg0 kz0 k1_0 k1_1 k1_2 kz1 k2_0 k2_1 k2_2 k2_3 kz2
  have G3 := Fr.call F2.out hb3
  obtain ⟨k0_0, k0_1, kf0, kg0⟩ := (G3.get 2 rfl).two
  have kz0 := (G3.get 2 rfl).lt
  obtain ⟨k1_0, k1_1, k1_2⟩ := (G3.get 1 rfl).three
  have kz1 := (G3.get 1 rfl).lt
  obtain ⟨k2_0, k2_1, k2_2, k2_3⟩ := (G3.get 0 rfl).four
  have kz2 := (G3.get 0 rfl).lt
  have F3 : Hid (Fr w _ [(w.heap.size + 1 + 1, 53, #[.int .i64 p, .int .i64 sq, .string s2, .slice A2 ps2.length c2]), (w.heap.size + 1, 26, #[.int .i64 b.brk, .int .i64 b.drag, .int .i64 b.drv]), (w.heap.size, 24, #[.string s, .slice A ps.length c])]) := Lib.hid G3
  clear hb3 G3 F2
  go_wp2_with fail
  go_ret
  first | exact ⟨rfl, F3.out.bl⟩ | exact ⟨rfl, (F3.out.new _).bl⟩

set_option maxHeartbeats 3200000 in
set_option maxRecDepth 100000 in
theorem ws_bad0 (s : ByteArray) (hs : s.size ≤ maxLen) (ps : List Bp) (A : Option Addr) (c : Nat) (hg : HdOk ⟨A, c⟩) (hl : ps.length ≤ maxLen) (b : Bs) (s2 : ByteArray) (hs2 : s2.size ≤ maxLen) (ps2 : List Bp) (A2 : Option Addr) (c2 : Nat) (hg2 : HdOk ⟨A2, c2⟩) (hl2 : ps2.length ≤ maxLen) (p sq : Int) (hsh : shortB s ps = true) (hsh2 : shortB s2 ps2 = true) (er : Int) (hr : er ≠ 0) (hb0 : bothE s ps b = er) (w : World) (hA : Lies w w.heap.size A (ps.flatMap pc)) (hA2 : Lies w w.heap.size A2 (ps2.flatMap pc)) : Calls Try.prog 4 #[.agg #[.string s, .slice A ps.length c], .agg #[.int .i64 b.brk, .int .i64 b.drag, .int .i64 b.drv], .agg #[.int .i64 p, .int .i64 sq, .string s2, .slice A2 ps2.length c2]] w fun e w' => e = .returned (.bool true) ∧ Below w.heap.size w w' := by
  obtain ⟨je, hje⟩ : ∃ je, joiE s ps s2 ps2 = je := ⟨_, rfl⟩
  have HJ : Hid (∀ (A' : Option Addr) (c' : Nat) (A'' : Option Addr) (c'' : Nat) (W : World), Lies W W.heap.size A' (ps.flatMap pc) → Lies W W.heap.size A'' (ps2.flatMap pc) → Calls Try.prog 20 #[.agg #[.string s, .slice A' ps.length c'], .agg #[.string s2, .slice A'' ps2.length c'']] W fun e w' => ∃ (sx : ByteArray) (Ax : Option Addr) (nx cx : Nat), e = .returned (.tuple #[.agg #[.string sx, .slice Ax nx cx], .int .i64 je]) ∧ Below W.heap.size W w') := Lib.hid (fun A' c' A'' c'' W h h2 => by have := joined_gen s hs ps A' c' (by have := (short_iff.1 hsh).2; omega) s2 hs2 ps2 A'' c'' (by have := (short_iff.1 hsh2).2; omega) W h h2; rw [hje] at this; exact this)
  have hnz : nz ((trE s ps).2 :: sE b :: [stateE ps p sq]) = er := by rw [bothE_nz, if_neg (by rw [hb0]; exact hr), hb0]
  have HSA : Hid (∀ (A' : Option Addr) (c' : Nat) (W : World), Lies W W.heap.size A' (ps.flatMap pc) → Calls Try.prog 18 #[.agg #[.string s, .slice A' ps.length c'], .agg #[.int .i64 b.brk, .int .i64 b.drag, .int .i64 b.drv], .agg #[.int .i64 p, .int .i64 sq]] W fun e w' => e = .returned (.tuple #[.agg #[.int .i64 0, .int .i64 0], .int .i64 er]) ∧ Below W.heap.size W w') := Lib.hid (fun A' c' W h => StandsAt_bad s hs ps A' c' (by have := (short_iff.1 hsh).2; omega) b p sq er hnz hr W h)
  have F0 := Lib.hid (Fr.b3 w 24 #[.string s, .slice A ps.length c] 26 #[.int .i64 b.brk, .int .i64 b.drag, .int .i64 b.drv] 53 #[.int .i64 p, .int .i64 sq, .string s2, .slice A2 ps2.length c2])
  have HA := Lib.hid hA
  have HG := Lib.hid hg
  have HA2 := Lib.hid hA2
  have HG2 := Lib.hid hg2
  clear hA hg hA2 hg2
  have HSH := Lib.hid hsh
  have HSH2 := Lib.hid hsh2
  have hl14 : ps.length ≤ 14 := (short_iff.1 hsh).2
  have hl142 : ps2.length ≤ 14 := (short_iff.1 hsh2).2
  clear hsh hsh2
  have HE := Lib.hid hb0
  have gn : (er != 0) = true := by simp [hr]
  have ge : (er == 0) = false := by simp [hr]
  have ge2 : ¬ er = 0 := hr
  clear hr hb0 hje hnz
  go_enter Try.func4, Try.ntmps4
  go_wp2_with fail
  refine (awake_any _).mono ?_
  rintro e w1 ⟨rfl, hb1⟩
  have G1 := Fr.call F0.out hb1
  obtain ⟨k0_0, k0_1, kf0, kg0⟩ := (G1.get 2 rfl).two
  have kz0 := (G1.get 2 rfl).lt
  obtain ⟨k1_0, k1_1, k1_2⟩ := (G1.get 1 rfl).three
  have kz1 := (G1.get 1 rfl).lt
  obtain ⟨k2_0, k2_1, k2_2, k2_3⟩ := (G1.get 0 rfl).four
  have kz2 := (G1.get 0 rfl).lt
  have F1 : Hid (Fr w _ [(w.heap.size + 1 + 1, 53, #[.int .i64 p, .int .i64 sq, .string s2, .slice A2 ps2.length c2]), (w.heap.size + 1, 26, #[.int .i64 b.brk, .int .i64 b.drag, .int .i64 b.drv]), (w.heap.size, 24, #[.string s, .slice A ps.length c])]) := Lib.hid G1
  clear hb1 G1 F0
  go_wp2_with fail
  refine (Short_any s hs ps A c hl _).mono ?_
  rintro e w2 ⟨rfl, hb2⟩
  rw [HSH.out]
  clear k0_0 k0_1 kf0 kg0 kz0 k1_0 k1_1 k1_2 kz1 k2_0 k2_1 k2_2 k2_3 kz2
  have G2 := Fr.call F1.out hb2
  obtain ⟨k0_0, k0_1, kf0, kg0⟩ := (G2.get 2 rfl).two
  have kz0 := (G2.get 2 rfl).lt
  obtain ⟨k1_0, k1_1, k1_2⟩ := (G2.get 1 rfl).three
  have kz1 := (G2.get 1 rfl).lt
  obtain ⟨k2_0, k2_1, k2_2, k2_3⟩ := (G2.get 0 rfl).four
  have kz2 := (G2.get 0 rfl).lt
  have F2 : Hid (Fr w _ [(w.heap.size + 1 + 1, 53, #[.int .i64 p, .int .i64 sq, .string s2, .slice A2 ps2.length c2]), (w.heap.size + 1, 26, #[.int .i64 b.brk, .int .i64 b.drag, .int .i64 b.drv]), (w.heap.size, 24, #[.string s, .slice A ps.length c])]) := Lib.hid G2
  clear hb2 G2 F1
  go_wp2_with fail
  refine (Short_any s2 hs2 ps2 A2 c2 hl2 _).mono ?_
  rintro e w3 ⟨rfl, hb3⟩
  rw [HSH2.out]
  clear k0_0 k0_1 kf0 kg0 kz0 k1_0 k1_1 k1_2 kz1 k2_0 k2_1 k2_2 k2_3 kz2
  have G3 := Fr.call F2.out hb3
  obtain ⟨k0_0, k0_1, kf0, kg0⟩ := (G3.get 2 rfl).two
  have kz0 := (G3.get 2 rfl).lt
  obtain ⟨k1_0, k1_1, k1_2⟩ := (G3.get 1 rfl).three
  have kz1 := (G3.get 1 rfl).lt
  obtain ⟨k2_0, k2_1, k2_2, k2_3⟩ := (G3.get 0 rfl).four
  have kz2 := (G3.get 0 rfl).lt
  have F3 : Hid (Fr w _ [(w.heap.size + 1 + 1, 53, #[.int .i64 p, .int .i64 sq, .string s2, .slice A2 ps2.length c2]), (w.heap.size + 1, 26, #[.int .i64 b.brk, .int .i64 b.drag, .int .i64 b.drv]), (w.heap.size, 24, #[.string s, .slice A ps.length c])]) := Lib.hid G3
  clear hb3 G3 F2
  go_upto_region 5 with fail
  clear k0_0 k0_1 kf0 kg0 kz0 k1_0 k1_1 k1_2 kz1 k2_0 k2_1 k2_2 k2_3 kz2
  go_cut [7, 8] from 28 to 36 (fun pv ev W => ∃ g : Nat, pv = .pointer (some ⟨g, 0, none⟩) ∧ ev = .int .i64 er ∧ Fr w3 W [(g, 48, #[.int .i64 0, .int .i64 0])])
  case first =>
    refine wp_abs ?_
    intro wnow hnow
    have HALL : Hid (∀ W, Fr w3 W [] → Fr w3 W [] ∧ W.cell? ⟨w.heap.size, 0, none⟩ = some (.string s) ∧ W.cell? ⟨w.heap.size, 1, none⟩ = some (.slice A ps.length c) ∧ W.cell? ⟨w.heap.size + 1, 0, none⟩ = some (.int .i64 b.brk) ∧ W.cell? ⟨w.heap.size + 1, 1, none⟩ = some (.int .i64 b.drag) ∧ W.cell? ⟨w.heap.size + 1, 2, none⟩ = some (.int .i64 b.drv) ∧ W.cell? ⟨w.heap.size + 1 + 1, 0, none⟩ = some (.int .i64 p) ∧ W.cell? ⟨w.heap.size + 1 + 1, 1, none⟩ = some (.int .i64 sq) ∧ W.cell? ⟨w.heap.size + 1 + 1, 2, none⟩ = some (.string s2) ∧ W.cell? ⟨w.heap.size + 1 + 1, 3, none⟩ = some (.slice A2 ps2.length c2)) := Lib.hid (fun W hW => ⟨hW, ((F3.out.get 2 rfl).call hW.bl).cell 0, ((F3.out.get 2 rfl).call hW.bl).cell 1, ((F3.out.get 1 rfl).call hW.bl).cell 0, ((F3.out.get 1 rfl).call hW.bl).cell 1, ((F3.out.get 1 rfl).call hW.bl).cell 2, ((F3.out.get 0 rfl).call hW.bl).cell 0, ((F3.out.get 0 rfl).call hW.bl).cell 1, ((F3.out.get 0 rfl).call hW.bl).cell 2, ((F3.out.get 0 rfl).call hW.bl).cell 3⟩)
    have HAC := Lib.hid (Fr.lies HA.out F3.out)
    have F10 : Fr w3 wnow [] := by subst hnow; exact Fr.nil _
    clear hnow
    refine Tw_start 11 (fun W => Fr w3 W [] ∧ W.cell? ⟨w.heap.size, 0, none⟩ = some (.string s) ∧ W.cell? ⟨w.heap.size, 1, none⟩ = some (.slice A ps.length c) ∧ W.cell? ⟨w.heap.size + 1, 0, none⟩ = some (.int .i64 b.brk) ∧ W.cell? ⟨w.heap.size + 1, 1, none⟩ = some (.int .i64 b.drag) ∧ W.cell? ⟨w.heap.size + 1, 2, none⟩ = some (.int .i64 b.drv) ∧ W.cell? ⟨w.heap.size + 1 + 1, 0, none⟩ = some (.int .i64 p) ∧ W.cell? ⟨w.heap.size + 1 + 1, 1, none⟩ = some (.int .i64 sq) ∧ W.cell? ⟨w.heap.size + 1 + 1, 2, none⟩ = some (.string s2) ∧ W.cell? ⟨w.heap.size + 1 + 1, 3, none⟩ = some (.slice A2 ps2.length c2)) (by kernel_rfl) (by kernel_rfl) rfl ?_ ?_
    · (try dsimp only)
      ((go_split_ands; refine HALL.out _ ?_; (first | assumption | (repeat (first | assumption | refine Fr.new ?_ _ | refine Fr.drew ?_ | (refine Fr.set ?_ (by first | exact Nat.le_refl _ | omega | (simp; done) | (simp; omega)) (by first | (simp; done) | (simp; omega)) _))); done)))
    refine Tw_takeL (i := 0) (v := ?tv1) rfl (by kernel_rfl) (by decide) (by kernel_rfl) (by kernel_rfl) (fun _ _ _ h => h) (by rfl) ?ty1 ?tn1
    case ty1 => (intro w hSw; (try dsimp only at hSw); go_simp <;> with_reducible rfl)
    (try simp only [Act.put, List.setIfInBounds_toArray, List.set_cons_zero, List.set_cons_succ])
    refine Tw_takeL (i := 2) (v := ?tv2) rfl (by kernel_rfl) (by decide) (by kernel_rfl) (by kernel_rfl) (fun _ _ _ h => h) (by rfl) ?ty2 ?tn2
    case ty2 => (intro w hSw; (try dsimp only at hSw); go_simp <;> with_reducible rfl)
    (try simp only [Act.put, List.setIfInBounds_toArray, List.set_cons_zero, List.set_cons_succ])
    refine Tw_takeL (i := 3) (v := ?tv3) rfl (by kernel_rfl) (by decide) (by kernel_rfl) (by kernel_rfl) (fun _ _ _ h => h) (by rfl) ?ty3 ?tn3
    case ty3 => (intro w hSw; (try dsimp only at hSw); go_simp <;> with_reducible rfl)
    (try simp only [Act.put, List.setIfInBounds_toArray, List.set_cons_zero, List.set_cons_succ])
    refine Tw_takeL (i := 4) (v := ?tv4) rfl (by kernel_rfl) (by decide) (by kernel_rfl) (by kernel_rfl) (fun _ _ _ h => h) (by rfl) ?ty4 ?tn4
    case ty4 => (intro w hSw; (try dsimp only at hSw); go_simp <;> with_reducible rfl)
    (try simp only [Act.put, List.setIfInBounds_toArray, List.set_cons_zero, List.set_cons_succ])
    refine Tw_all (rs := [1, 9]) (by kernel_rfl) (by simp) (by decide) (fun hHeld => ?_)
    refine AllT.consL rfl (fun K hK => ?_) (AllT.consL rfl (fun K hK => ?_) (AllT.nil))
    · go_simp
      (go_at_call 13; go_split_ands; (with_reducible refine (Copy_any s ps ⟨A, c⟩ (by omega) HG.out _ (Fr.lies HAC.out (by assumption))).mono ?_); rintro e w7 ⟨g2, rfl, hl2, hk2, hb7⟩; have L2 := Lib.hid hl2; have F4 := Fr.call (by assumption) hb7; (first | (have N1 := Lib.hid (Bk.call N1.out hb7)) | skip); clear hb7 hl2 hk2)
      refine hK.out _ _ ?_ ?_
      · (try dsimp only)
        ((go_split_ands; refine HALL.out _ ?_; (first | assumption | (repeat (first | assumption | refine Fr.new ?_ _ | refine Fr.drew ?_ | (refine Fr.set ?_ (by first | exact Nat.le_refl _ | omega | (simp; done) | (simp; omega)) (by first | (simp; done) | (simp; omega)) _))); done)))
      clear hK K
      (try simp only [Act.put, List.setIfInBounds_toArray, List.set_cons_zero, List.set_cons_succ])
      refine Tw_all (rs := [5, 9]) (by kernel_rfl) (by simp) (by decide) (fun hHeld => ?_)
      refine AllT.consL rfl (fun K hK => ?_) (AllT.consL rfl (fun K hK => ?_) (AllT.nil))
      · go_simp
        (go_at_call 18; go_split_ands; (with_reducible refine (HSA.out _ _ _ L2.out).mono ?_); rintro e w7 ⟨rfl, hb7⟩; skip; have F4 := Fr.call (by assumption) hb7; (first | (have N1 := Lib.hid (Bk.call N1.out hb7)) | skip); clear hb7)
        refine hK.out _ _ ?_ ?_
        · (try dsimp only)
          ((go_split_ands; refine HALL.out _ ?_; (first | assumption | (repeat (first | assumption | refine Fr.new ?_ _ | refine Fr.drew ?_ | (refine Fr.set ?_ (by first | exact Nat.le_refl _ | omega | (simp; done) | (simp; omega)) (by first | (simp; done) | (simp; omega)) _))); done)))
        clear hK K
        (try simp only [Act.put, List.setIfInBounds_toArray, List.set_cons_zero, List.set_cons_succ])
        refine Tw_takeL (i := 6) (v := ?tv5) rfl (by kernel_rfl) (by decide) (by kernel_rfl) (by kernel_rfl) (fun _ _ _ h => h) (by rfl) ?ty5 ?tn5
        case ty5 => (intro w hSw; (try dsimp only at hSw); go_simp <;> with_reducible rfl)
        (try simp only [Act.put, List.setIfInBounds_toArray, List.set_cons_zero, List.set_cons_succ])
        refine Tw_takeL (i := 7) (v := ?tv6) rfl (by kernel_rfl) (by decide) (by kernel_rfl) (by kernel_rfl) (fun _ _ _ h => h) (by rfl) ?ty6 ?tn6
        case ty6 => (intro w hSw; (try dsimp only at hSw); go_simp <;> with_reducible rfl)
        (try simp only [Act.put, List.setIfInBounds_toArray, List.set_cons_zero, List.set_cons_succ])
        refine Tw_takeL (i := 8) (v := ?tv7) rfl (by kernel_rfl) (by decide) (by kernel_rfl) (by kernel_rfl) (fun _ _ _ h => h) (by rfl) ?ty7 ?tn7
        case ty7 => (intro w hSw; (try dsimp only at hSw); go_simp <;> with_reducible rfl)
        (try simp only [Act.put, List.setIfInBounds_toArray, List.set_cons_zero, List.set_cons_succ])
        refine Tw_all (rs := [9]) (by kernel_rfl) (by simp) (by decide) (fun hHeld => ?_)
        refine AllT.consL rfl (fun K hK => ?_) (AllT.nil)
        · go_simp
          refine hK.out _ _ ?_ ?_
          · (try dsimp only)
            ((go_split_ands; refine HALL.out _ ?_; (first | assumption | (repeat (first | assumption | refine Fr.new ?_ _ | refine Fr.drew ?_ | (refine Fr.set ?_ (by first | exact Nat.le_refl _ | omega | (simp; done) | (simp; omega)) (by first | (simp; done) | (simp; omega)) _))); done)))
          clear hK K
          (try simp only [Act.put, List.setIfInBounds_toArray, List.set_cons_zero, List.set_cons_succ])
          refine Tw_abs ?_
          intro wA3 hA3
          (first | (have N1 := Lib.hid (Bk.of_alloc hA3)) | (have N1 := Lib.hid (Bk.of_alloc_drew hA3)))
          have zg := Lib.hid (show w3.heap.size ≤ _ from hHeld.1.size)
          (first | (have L2 := Lib.hid (Lies.alloc hA3 L2.out)) | (have L2 := Lib.hid (Lies.alloc_drew hA3 L2.out)) | skip)
          clear hA3
          refine Tw_all (rs := [10]) (by kernel_rfl) (by simp) (by decide) (fun hHeld => ?_)
          refine AllT.consL rfl (fun K hK => ?_) (AllT.nil)
          · have c0 := N1.out.cell 0
            have c1 := N1.out.cell 1
            have f0 := N1.out.frozen 0
            have f1 := N1.out.frozen 1
            have zN := N1.out.lt
            go_simp
            refine hK.out _ _ ?_ ?_
            · exact HALL.out _ ((hHeld.1.set (p := ⟨_, 0, none⟩) zg.out (fun b hb => by simp at hb) _).set (p := ⟨_, 1, none⟩) zg.out (fun b hb => by simp at hb) _)
            clear hK K c0 f0 c1 f1 zN
            have N1 := Lib.hid (Bk.set2 N1.out (.int .i64 0) (.int .i64 0))
            (try simp only [Act.put, List.setIfInBounds_toArray, List.set_cons_zero, List.set_cons_succ])
            refine Tw_end (by kernel_rfl) (fun hh => ?_)
            obtain ⟨F11, _⟩ := hh
            clear HALL
            go_wp2_with fail
            go_meet
            exact ⟨_, rfl, rfl, F11.more N1.out⟩
      · go_simp
        refine hK.out _ _ ?_ ?_
        · (try dsimp only)
          ((go_split_ands; refine HALL.out _ ?_; (first | assumption | (repeat (first | assumption | refine Fr.new ?_ _ | refine Fr.drew ?_ | (refine Fr.set ?_ (by first | exact Nat.le_refl _ | omega | (simp; done) | (simp; omega)) (by first | (simp; done) | (simp; omega)) _))); done)))
        clear hK K
        (try simp only [Act.put, List.setIfInBounds_toArray, List.set_cons_zero, List.set_cons_succ])
        refine Tw_abs ?_
        intro wA5 hA5
        (first | (have N1 := Lib.hid (Bk.of_alloc hA5)) | (have N1 := Lib.hid (Bk.of_alloc_drew hA5)))
        have zg := Lib.hid (show w3.heap.size ≤ _ from hHeld.1.size)
        (first | (have L2 := Lib.hid (Lies.alloc hA5 L2.out)) | (have L2 := Lib.hid (Lies.alloc_drew hA5 L2.out)) | skip)
        clear hA5
        refine Tw_all (rs := [5]) (by kernel_rfl) (by simp) (by decide) (fun hHeld => ?_)
        refine AllT.consL rfl (fun K hK => ?_) (AllT.nil)
        · go_simp
          (go_at_call 18; go_split_ands; (with_reducible refine (HSA.out _ _ _ L2.out).mono ?_); rintro e w7 ⟨rfl, hb7⟩; skip; have F4 := Fr.call (by assumption) hb7; (first | (have N1 := Lib.hid (Bk.call N1.out hb7)) | skip); clear hb7)
          refine hK.out _ _ ?_ ?_
          · (try dsimp only)
            ((go_split_ands; refine HALL.out _ ?_; (first | assumption | (repeat (first | assumption | refine Fr.new ?_ _ | refine Fr.drew ?_ | (refine Fr.set ?_ (by first | exact Nat.le_refl _ | omega | (simp; done) | (simp; omega)) (by first | (simp; done) | (simp; omega)) _))); done)))
          clear hK K
          (try simp only [Act.put, List.setIfInBounds_toArray, List.set_cons_zero, List.set_cons_succ])
          refine Tw_takeL (i := 6) (v := ?tv8) rfl (by kernel_rfl) (by decide) (by kernel_rfl) (by kernel_rfl) (fun _ _ _ h => h) (by rfl) ?ty8 ?tn8
          case ty8 => (intro w hSw; (try dsimp only at hSw); go_simp <;> with_reducible rfl)
          (try simp only [Act.put, List.setIfInBounds_toArray, List.set_cons_zero, List.set_cons_succ])
          refine Tw_takeL (i := 7) (v := ?tv9) rfl (by kernel_rfl) (by decide) (by kernel_rfl) (by kernel_rfl) (fun _ _ _ h => h) (by rfl) ?ty9 ?tn9
          case ty9 => (intro w hSw; (try dsimp only at hSw); go_simp <;> with_reducible rfl)
          (try simp only [Act.put, List.setIfInBounds_toArray, List.set_cons_zero, List.set_cons_succ])
          refine Tw_takeL (i := 8) (v := ?tv10) rfl (by kernel_rfl) (by decide) (by kernel_rfl) (by kernel_rfl) (fun _ _ _ h => h) (by rfl) ?ty10 ?tn10
          case ty10 => (intro w hSw; (try dsimp only at hSw); go_simp <;> with_reducible rfl)
          (try simp only [Act.put, List.setIfInBounds_toArray, List.set_cons_zero, List.set_cons_succ])
          refine Tw_all (rs := [10]) (by kernel_rfl) (by simp) (by decide) (fun hHeld => ?_)
          refine AllT.consL rfl (fun K hK => ?_) (AllT.nil)
          · have c0 := N1.out.cell 0
            have c1 := N1.out.cell 1
            have f0 := N1.out.frozen 0
            have f1 := N1.out.frozen 1
            have zN := N1.out.lt
            go_simp
            refine hK.out _ _ ?_ ?_
            · exact HALL.out _ ((hHeld.1.set (p := ⟨_, 0, none⟩) zg.out (fun b hb => by simp at hb) _).set (p := ⟨_, 1, none⟩) zg.out (fun b hb => by simp at hb) _)
            clear hK K c0 f0 c1 f1 zN
            have N1 := Lib.hid (Bk.set2 N1.out (.int .i64 0) (.int .i64 0))
            (try simp only [Act.put, List.setIfInBounds_toArray, List.set_cons_zero, List.set_cons_succ])
            refine Tw_end (by kernel_rfl) (fun hh => ?_)
            obtain ⟨F11, _⟩ := hh
            clear HALL
            go_wp2_with fail
            go_meet
            exact ⟨_, rfl, rfl, F11.more N1.out⟩
    · go_simp
      refine hK.out _ _ ?_ ?_
      · (try dsimp only)
        ((go_split_ands; refine HALL.out _ ?_; (first | assumption | (repeat (first | assumption | refine Fr.new ?_ _ | refine Fr.drew ?_ | (refine Fr.set ?_ (by first | exact Nat.le_refl _ | omega | (simp; done) | (simp; omega)) (by first | (simp; done) | (simp; omega)) _))); done)))
      clear hK K
      (try simp only [Act.put, List.setIfInBounds_toArray, List.set_cons_zero, List.set_cons_succ])
      refine Tw_abs ?_
      intro wA8 hA8
      (first | (have N1 := Lib.hid (Bk.of_alloc hA8)) | (have N1 := Lib.hid (Bk.of_alloc_drew hA8)))
      have zg := Lib.hid (show w3.heap.size ≤ _ from hHeld.1.size)
      (first | (have L2 := Lib.hid (Lies.alloc hA8 L2.out)) | (have L2 := Lib.hid (Lies.alloc_drew hA8 L2.out)) | skip)
      clear hA8
      refine Tw_all (rs := [1]) (by kernel_rfl) (by simp) (by decide) (fun hHeld => ?_)
      refine AllT.consL rfl (fun K hK => ?_) (AllT.nil)
      · go_simp
        (go_at_call 13; go_split_ands; (with_reducible refine (Copy_any s ps ⟨A, c⟩ (by omega) HG.out _ (Fr.lies HAC.out (by assumption))).mono ?_); rintro e w7 ⟨g2, rfl, hl2, hk2, hb7⟩; have L2 := Lib.hid hl2; have F4 := Fr.call (by assumption) hb7; (first | (have N1 := Lib.hid (Bk.call N1.out hb7)) | skip); clear hb7 hl2 hk2)
        refine hK.out _ _ ?_ ?_
        · (try dsimp only)
          ((go_split_ands; refine HALL.out _ ?_; (first | assumption | (repeat (first | assumption | refine Fr.new ?_ _ | refine Fr.drew ?_ | (refine Fr.set ?_ (by first | exact Nat.le_refl _ | omega | (simp; done) | (simp; omega)) (by first | (simp; done) | (simp; omega)) _))); done)))
        clear hK K
        (try simp only [Act.put, List.setIfInBounds_toArray, List.set_cons_zero, List.set_cons_succ])
        refine Tw_all (rs := [5]) (by kernel_rfl) (by simp) (by decide) (fun hHeld => ?_)
        refine AllT.consL rfl (fun K hK => ?_) (AllT.nil)
        · go_simp
          (go_at_call 18; go_split_ands; (with_reducible refine (HSA.out _ _ _ L2.out).mono ?_); rintro e w7 ⟨rfl, hb7⟩; skip; have F4 := Fr.call (by assumption) hb7; (first | (have N1 := Lib.hid (Bk.call N1.out hb7)) | skip); clear hb7)
          refine hK.out _ _ ?_ ?_
          · (try dsimp only)
            ((go_split_ands; refine HALL.out _ ?_; (first | assumption | (repeat (first | assumption | refine Fr.new ?_ _ | refine Fr.drew ?_ | (refine Fr.set ?_ (by first | exact Nat.le_refl _ | omega | (simp; done) | (simp; omega)) (by first | (simp; done) | (simp; omega)) _))); done)))
          clear hK K
          (try simp only [Act.put, List.setIfInBounds_toArray, List.set_cons_zero, List.set_cons_succ])
          refine Tw_takeL (i := 6) (v := ?tv11) rfl (by kernel_rfl) (by decide) (by kernel_rfl) (by kernel_rfl) (fun _ _ _ h => h) (by rfl) ?ty11 ?tn11
          case ty11 => (intro w hSw; (try dsimp only at hSw); go_simp <;> with_reducible rfl)
          (try simp only [Act.put, List.setIfInBounds_toArray, List.set_cons_zero, List.set_cons_succ])
          refine Tw_takeL (i := 7) (v := ?tv12) rfl (by kernel_rfl) (by decide) (by kernel_rfl) (by kernel_rfl) (fun _ _ _ h => h) (by rfl) ?ty12 ?tn12
          case ty12 => (intro w hSw; (try dsimp only at hSw); go_simp <;> with_reducible rfl)
          (try simp only [Act.put, List.setIfInBounds_toArray, List.set_cons_zero, List.set_cons_succ])
          refine Tw_takeL (i := 8) (v := ?tv13) rfl (by kernel_rfl) (by decide) (by kernel_rfl) (by kernel_rfl) (fun _ _ _ h => h) (by rfl) ?ty13 ?tn13
          case ty13 => (intro w hSw; (try dsimp only at hSw); go_simp <;> with_reducible rfl)
          (try simp only [Act.put, List.setIfInBounds_toArray, List.set_cons_zero, List.set_cons_succ])
          refine Tw_all (rs := [10]) (by kernel_rfl) (by simp) (by decide) (fun hHeld => ?_)
          refine AllT.consL rfl (fun K hK => ?_) (AllT.nil)
          · have c0 := N1.out.cell 0
            have c1 := N1.out.cell 1
            have f0 := N1.out.frozen 0
            have f1 := N1.out.frozen 1
            have zN := N1.out.lt
            go_simp
            refine hK.out _ _ ?_ ?_
            · exact HALL.out _ ((hHeld.1.set (p := ⟨_, 0, none⟩) zg.out (fun b hb => by simp at hb) _).set (p := ⟨_, 1, none⟩) zg.out (fun b hb => by simp at hb) _)
            clear hK K c0 f0 c1 f1 zN
            have N1 := Lib.hid (Bk.set2 N1.out (.int .i64 0) (.int .i64 0))
            (try simp only [Act.put, List.setIfInBounds_toArray, List.set_cons_zero, List.set_cons_succ])
            refine Tw_end (by kernel_rfl) (fun hh => ?_)
            obtain ⟨F11, _⟩ := hh
            clear HALL
            go_wp2_with fail
            go_meet
            exact ⟨_, rfl, rfl, F11.more N1.out⟩
  case rest =>
    obtain ⟨wb1, rfl⟩ : ∃ W, W = wc := ⟨_, rfl⟩
    obtain ⟨gr, rfl, rfl, hx⟩ := hcut
    have FB1 := Lib.hid (F3.out.call hx.bl)
    have HX1 := Lib.hid hx
    clear hx F3
    obtain ⟨k0_0, k0_1, kf0, kg0⟩ := (FB1.out.get 2 rfl).two
    have kz0 := (FB1.out.get 2 rfl).lt
    obtain ⟨k1_0, k1_1, k1_2⟩ := (FB1.out.get 1 rfl).three
    have kz1 := (FB1.out.get 1 rfl).lt
    obtain ⟨k2_0, k2_1, k2_2, k2_3⟩ := (FB1.out.get 0 rfl).four
    have kz2 := (FB1.out.get 0 rfl).lt
    have FR := Lib.hid (FB1.out.more HX1.out.top)
    clear FB1 HX1
    obtain ⟨k3_0, k3_1, kf3, kg3⟩ := (FR.out.get 0 rfl).two
    have kz3 := (FR.out.get 0 rfl).lt
    go_wp2_with fail
    refine (BothErr_any s hs ps A c hl b _ (Fr.lies HA.out FR.out)).mono ?_
    rintro e w4 ⟨rfl, hb4⟩
    rw [HE.out]
    clear k0_0 k0_1 kf0 kg0 kz0 k1_0 k1_1 k1_2 kz1 k2_0 k2_1 k2_2 k2_3 kz2 k3_0 k3_1 kf3 kg3 kz3
    have G4 := Fr.call FR.out hb4
    obtain ⟨k0_0, k0_1, kf0, kg0⟩ := (G4.get 3 rfl).two
    have kz0 := (G4.get 3 rfl).lt
    obtain ⟨k1_0, k1_1, k1_2⟩ := (G4.get 2 rfl).three
    have kz1 := (G4.get 2 rfl).lt
    obtain ⟨k2_0, k2_1, k2_2, k2_3⟩ := (G4.get 1 rfl).four
    have kz2 := (G4.get 1 rfl).lt
    obtain ⟨k3_0, k3_1, kf3, kg3⟩ := (G4.get 0 rfl).two
    have kz3 := (G4.get 0 rfl).lt
    have F4 : Hid (Fr w _ [(gr, 48, #[.int .i64 0, .int .i64 0]), (w.heap.size + 1 + 1, 53, #[.int .i64 p, .int .i64 sq, .string s2, .slice A2 ps2.length c2]), (w.heap.size + 1, 26, #[.int .i64 b.brk, .int .i64 b.drag, .int .i64 b.drv]), (w.heap.size, 24, #[.string s, .slice A ps.length c])]) := Lib.hid G4
    clear hb4 G4 FR
    go_upto_region 17 with fail
    clear k0_0 k0_1 kf0 kg0 kz0 k1_0 k1_1 k1_2 kz1 k2_0 k2_1 k2_2 k2_3 kz2 k3_0 k3_1 kf3 kg3 kz3
    go_cut [13, 14] from 67 to 75 (fun jv fv W => ∃ (g : Nat) (sx : ByteArray) (Ax : Option Addr) (nx cx : Nat), jv = .pointer (some ⟨g, 0, none⟩) ∧ fv = .int .i64 je ∧ Fr w4 W [(g, 24, #[.string sx, .slice Ax nx cx])])
    case first =>
      refine wp_abs ?_
      intro wnow hnow
      have HALL : Hid (∀ W, Fr w4 W [] → Fr w4 W [] ∧ W.cell? ⟨w.heap.size, 0, none⟩ = some (.string s) ∧ W.cell? ⟨w.heap.size, 1, none⟩ = some (.slice A ps.length c) ∧ W.cell? ⟨w.heap.size + 1, 0, none⟩ = some (.int .i64 b.brk) ∧ W.cell? ⟨w.heap.size + 1, 1, none⟩ = some (.int .i64 b.drag) ∧ W.cell? ⟨w.heap.size + 1, 2, none⟩ = some (.int .i64 b.drv) ∧ W.cell? ⟨w.heap.size + 1 + 1, 0, none⟩ = some (.int .i64 p) ∧ W.cell? ⟨w.heap.size + 1 + 1, 1, none⟩ = some (.int .i64 sq) ∧ W.cell? ⟨w.heap.size + 1 + 1, 2, none⟩ = some (.string s2) ∧ W.cell? ⟨w.heap.size + 1 + 1, 3, none⟩ = some (.slice A2 ps2.length c2)) := Lib.hid (fun W hW => ⟨hW, ((F4.out.get 3 rfl).call hW.bl).cell 0, ((F4.out.get 3 rfl).call hW.bl).cell 1, ((F4.out.get 2 rfl).call hW.bl).cell 0, ((F4.out.get 2 rfl).call hW.bl).cell 1, ((F4.out.get 2 rfl).call hW.bl).cell 2, ((F4.out.get 1 rfl).call hW.bl).cell 0, ((F4.out.get 1 rfl).call hW.bl).cell 1, ((F4.out.get 1 rfl).call hW.bl).cell 2, ((F4.out.get 1 rfl).call hW.bl).cell 3⟩)
      have HAC := Lib.hid (Fr.lies HA.out F4.out)
      have F10 : Fr w4 wnow [] := by subst hnow; exact (Fr.nil w4).new _
      clear hnow
      have HAC2 := Lib.hid (Fr.lies HA2.out F4.out)
      refine Tw_start 11 (fun W => Fr w4 W [] ∧ W.cell? ⟨w.heap.size, 0, none⟩ = some (.string s) ∧ W.cell? ⟨w.heap.size, 1, none⟩ = some (.slice A ps.length c) ∧ W.cell? ⟨w.heap.size + 1, 0, none⟩ = some (.int .i64 b.brk) ∧ W.cell? ⟨w.heap.size + 1, 1, none⟩ = some (.int .i64 b.drag) ∧ W.cell? ⟨w.heap.size + 1, 2, none⟩ = some (.int .i64 b.drv) ∧ W.cell? ⟨w.heap.size + 1 + 1, 0, none⟩ = some (.int .i64 p) ∧ W.cell? ⟨w.heap.size + 1 + 1, 1, none⟩ = some (.int .i64 sq) ∧ W.cell? ⟨w.heap.size + 1 + 1, 2, none⟩ = some (.string s2) ∧ W.cell? ⟨w.heap.size + 1 + 1, 3, none⟩ = some (.slice A2 ps2.length c2)) (by kernel_rfl) (by kernel_rfl) rfl ?_ ?_
      · (try dsimp only)
        ((go_split_ands; refine HALL.out _ ?_; (first | assumption | (repeat (first | assumption | refine Fr.new ?_ _ | refine Fr.drew ?_ | (refine Fr.set ?_ (by first | exact Nat.le_refl _ | omega | (simp; done) | (simp; omega)) (by first | (simp; done) | (simp; omega)) _))); done)))
      refine Tw_takeL (i := 0) (v := ?tv14) rfl (by kernel_rfl) (by decide) (by kernel_rfl) (by kernel_rfl) (fun _ _ _ h => h) (by rfl) ?ty14 ?tn14
      case ty14 => (intro w hSw; (try dsimp only at hSw); go_simp <;> with_reducible rfl)
      (try simp only [Act.put, List.setIfInBounds_toArray, List.set_cons_zero, List.set_cons_succ])
      refine Tw_takeL (i := 2) (v := ?tv15) rfl (by kernel_rfl) (by decide) (by kernel_rfl) (by kernel_rfl) (fun _ _ _ h => h) (by rfl) ?ty15 ?tn15
      case ty15 => (intro w hSw; (try dsimp only at hSw); go_simp <;> with_reducible rfl)
      (try simp only [Act.put, List.setIfInBounds_toArray, List.set_cons_zero, List.set_cons_succ])
      refine Tw_takeL (i := 3) (v := ?tv16) rfl (by kernel_rfl) (by decide) (by kernel_rfl) (by kernel_rfl) (fun _ _ _ h => h) (by rfl) ?ty16 ?tn16
      case ty16 => (intro w hSw; (try dsimp only at hSw); go_simp <;> with_reducible rfl)
      (try simp only [Act.put, List.setIfInBounds_toArray, List.set_cons_zero, List.set_cons_succ])
      refine Tw_all (rs := [1, 9]) (by kernel_rfl) (by simp) (by decide) (fun hHeld => ?_)
      refine AllT.consL rfl (fun K hK => ?_) (AllT.consL rfl (fun K hK => ?_) (AllT.nil))
      · go_simp
        (go_at_call 13; go_split_ands; (with_reducible refine (Copy_any s ps ⟨A, c⟩ (by omega) HG.out _ (Fr.lies HAC.out (by assumption))).mono ?_); rintro e w7 ⟨g2, rfl, hl2, hk2, hb7⟩; have L2 := Lib.hid hl2; have F4 := Fr.call (by assumption) hb7; (first | (have N1 := Lib.hid (Bk.call N1.out hb7)) | skip); (first | (have L3 := Lib.hid (Lies.call L3.out hb7)) | skip); clear hb7 hl2 hk2)
        refine hK.out _ _ ?_ ?_
        · (try dsimp only)
          ((go_split_ands; refine HALL.out _ ?_; (first | assumption | (repeat (first | assumption | refine Fr.new ?_ _ | refine Fr.drew ?_ | (refine Fr.set ?_ (by first | exact Nat.le_refl _ | omega | (simp; done) | (simp; omega)) (by first | (simp; done) | (simp; omega)) _))); done)))
        clear hK K
        (try simp only [Act.put, List.setIfInBounds_toArray, List.set_cons_zero, List.set_cons_succ])
        refine Tw_all (rs := [4, 9]) (by kernel_rfl) (by simp) (by decide) (fun hHeld => ?_)
        refine AllT.consL rfl (fun K hK => ?_) (AllT.consL rfl (fun K hK => ?_) (AllT.nil))
        · go_simp
          (go_at_call 13; go_split_ands; (with_reducible refine (Copy_any s2 ps2 ⟨A2, c2⟩ (by omega) HG2.out _ (Fr.lies HAC2.out (by assumption))).mono ?_); rintro e w7 ⟨g3, rfl, hl3, hk3, hb7⟩; have L3 := Lib.hid hl3; have F4 := Fr.call (by assumption) hb7; (first | (have N1 := Lib.hid (Bk.call N1.out hb7)) | skip); (first | (have L2 := Lib.hid (Lies.call L2.out hb7)) | skip); clear hb7 hl3 hk3)
          refine hK.out _ _ ?_ ?_
          · (try dsimp only)
            ((go_split_ands; refine HALL.out _ ?_; (first | assumption | (repeat (first | assumption | refine Fr.new ?_ _ | refine Fr.drew ?_ | (refine Fr.set ?_ (by first | exact Nat.le_refl _ | omega | (simp; done) | (simp; omega)) (by first | (simp; done) | (simp; omega)) _))); done)))
          clear hK K
          (try simp only [Act.put, List.setIfInBounds_toArray, List.set_cons_zero, List.set_cons_succ])
          refine Tw_all (rs := [5, 9]) (by kernel_rfl) (by simp) (by decide) (fun hHeld => ?_)
          refine AllT.consL rfl (fun K hK => ?_) (AllT.consL rfl (fun K hK => ?_) (AllT.nil))
          · go_simp
            (go_at_call 20; go_split_ands; (with_reducible refine (HJ.out _ _ _ _ _ L2.out L3.out).mono ?_); rintro e w7 ⟨sx, Ax, nx, cx, rfl, hb7⟩; have F4 := Fr.call (by assumption) hb7; (first | (have N1 := Lib.hid (Bk.call N1.out hb7)) | skip); clear hb7)
            refine hK.out _ _ ?_ ?_
            · (try dsimp only)
              ((go_split_ands; refine HALL.out _ ?_; (first | assumption | (repeat (first | assumption | refine Fr.new ?_ _ | refine Fr.drew ?_ | (refine Fr.set ?_ (by first | exact Nat.le_refl _ | omega | (simp; done) | (simp; omega)) (by first | (simp; done) | (simp; omega)) _))); done)))
            clear hK K
            (try simp only [Act.put, List.setIfInBounds_toArray, List.set_cons_zero, List.set_cons_succ])
            refine Tw_takeL (i := 6) (v := ?tv17) rfl (by kernel_rfl) (by decide) (by kernel_rfl) (by kernel_rfl) (fun _ _ _ h => h) (by rfl) ?ty17 ?tn17
            case ty17 => (intro w hSw; (try dsimp only at hSw); go_simp <;> with_reducible rfl)
            (try simp only [Act.put, List.setIfInBounds_toArray, List.set_cons_zero, List.set_cons_succ])
            refine Tw_takeL (i := 7) (v := ?tv18) rfl (by kernel_rfl) (by decide) (by kernel_rfl) (by kernel_rfl) (fun _ _ _ h => h) (by rfl) ?ty18 ?tn18
            case ty18 => (intro w hSw; (try dsimp only at hSw); go_simp <;> with_reducible rfl)
            (try simp only [Act.put, List.setIfInBounds_toArray, List.set_cons_zero, List.set_cons_succ])
            refine Tw_takeL (i := 8) (v := ?tv19) rfl (by kernel_rfl) (by decide) (by kernel_rfl) (by kernel_rfl) (fun _ _ _ h => h) (by rfl) ?ty19 ?tn19
            case ty19 => (intro w hSw; (try dsimp only at hSw); go_simp <;> with_reducible rfl)
            (try simp only [Act.put, List.setIfInBounds_toArray, List.set_cons_zero, List.set_cons_succ])
            refine Tw_all (rs := [9]) (by kernel_rfl) (by simp) (by decide) (fun hHeld => ?_)
            refine AllT.consL rfl (fun K hK => ?_) (AllT.nil)
            · go_simp
              refine hK.out _ _ ?_ ?_
              · (try dsimp only)
                ((go_split_ands; refine HALL.out _ ?_; (first | assumption | (repeat (first | assumption | refine Fr.new ?_ _ | refine Fr.drew ?_ | (refine Fr.set ?_ (by first | exact Nat.le_refl _ | omega | (simp; done) | (simp; omega)) (by first | (simp; done) | (simp; omega)) _))); done)))
              clear hK K
              (try simp only [Act.put, List.setIfInBounds_toArray, List.set_cons_zero, List.set_cons_succ])
              refine Tw_abs ?_
              intro wA15 hA15
              (first | (have N1 := Lib.hid (Bk.of_alloc hA15)) | (have N1 := Lib.hid (Bk.of_alloc_drew hA15)))
              have zg := Lib.hid (show w4.heap.size ≤ _ from hHeld.1.size)
              (first | (have L2 := Lib.hid (Lies.alloc hA15 L2.out)) | (have L2 := Lib.hid (Lies.alloc_drew hA15 L2.out)) | skip)
              (first | (have L3 := Lib.hid (Lies.alloc hA15 L3.out)) | (have L3 := Lib.hid (Lies.alloc_drew hA15 L3.out)) | skip)
              clear hA15
              refine Tw_all (rs := [10]) (by kernel_rfl) (by simp) (by decide) (fun hHeld => ?_)
              refine AllT.consL rfl (fun K hK => ?_) (AllT.nil)
              · have c0 := N1.out.cell 0
                have c1 := N1.out.cell 1
                have f0 := N1.out.frozen 0
                have f1 := N1.out.frozen 1
                have zN := N1.out.lt
                go_simp
                refine hK.out _ _ ?_ ?_
                · exact HALL.out _ ((hHeld.1.set (p := ⟨_, 0, none⟩) zg.out (fun b hb => by simp at hb) _).set (p := ⟨_, 1, none⟩) zg.out (fun b hb => by simp at hb) _)
                clear hK K c0 f0 c1 f1 zN
                have N1 := Lib.hid (Bk.set2 N1.out (.string sx) (.slice Ax nx cx))
                (try simp only [Act.put, List.setIfInBounds_toArray, List.set_cons_zero, List.set_cons_succ])
                refine Tw_end (by kernel_rfl) (fun hh => ?_)
                obtain ⟨F11, _⟩ := hh
                clear HALL
                go_wp2_with fail
                go_meet
                exact ⟨_, sx, Ax, nx, cx, rfl, rfl, F11.more N1.out⟩
          · go_simp
            refine hK.out _ _ ?_ ?_
            · (try dsimp only)
              ((go_split_ands; refine HALL.out _ ?_; (first | assumption | (repeat (first | assumption | refine Fr.new ?_ _ | refine Fr.drew ?_ | (refine Fr.set ?_ (by first | exact Nat.le_refl _ | omega | (simp; done) | (simp; omega)) (by first | (simp; done) | (simp; omega)) _))); done)))
            clear hK K
            (try simp only [Act.put, List.setIfInBounds_toArray, List.set_cons_zero, List.set_cons_succ])
            refine Tw_abs ?_
            intro wA17 hA17
            (first | (have N1 := Lib.hid (Bk.of_alloc hA17)) | (have N1 := Lib.hid (Bk.of_alloc_drew hA17)))
            have zg := Lib.hid (show w4.heap.size ≤ _ from hHeld.1.size)
            (first | (have L2 := Lib.hid (Lies.alloc hA17 L2.out)) | (have L2 := Lib.hid (Lies.alloc_drew hA17 L2.out)) | skip)
            (first | (have L3 := Lib.hid (Lies.alloc hA17 L3.out)) | (have L3 := Lib.hid (Lies.alloc_drew hA17 L3.out)) | skip)
            clear hA17
            refine Tw_all (rs := [5]) (by kernel_rfl) (by simp) (by decide) (fun hHeld => ?_)
            refine AllT.consL rfl (fun K hK => ?_) (AllT.nil)
            · go_simp
              (go_at_call 20; go_split_ands; (with_reducible refine (HJ.out _ _ _ _ _ L2.out L3.out).mono ?_); rintro e w7 ⟨sx, Ax, nx, cx, rfl, hb7⟩; have F4 := Fr.call (by assumption) hb7; (first | (have N1 := Lib.hid (Bk.call N1.out hb7)) | skip); clear hb7)
              refine hK.out _ _ ?_ ?_
              · (try dsimp only)
                ((go_split_ands; refine HALL.out _ ?_; (first | assumption | (repeat (first | assumption | refine Fr.new ?_ _ | refine Fr.drew ?_ | (refine Fr.set ?_ (by first | exact Nat.le_refl _ | omega | (simp; done) | (simp; omega)) (by first | (simp; done) | (simp; omega)) _))); done)))
              clear hK K
              (try simp only [Act.put, List.setIfInBounds_toArray, List.set_cons_zero, List.set_cons_succ])
              refine Tw_takeL (i := 6) (v := ?tv20) rfl (by kernel_rfl) (by decide) (by kernel_rfl) (by kernel_rfl) (fun _ _ _ h => h) (by rfl) ?ty20 ?tn20
              case ty20 => (intro w hSw; (try dsimp only at hSw); go_simp <;> with_reducible rfl)
              (try simp only [Act.put, List.setIfInBounds_toArray, List.set_cons_zero, List.set_cons_succ])
              refine Tw_takeL (i := 7) (v := ?tv21) rfl (by kernel_rfl) (by decide) (by kernel_rfl) (by kernel_rfl) (fun _ _ _ h => h) (by rfl) ?ty21 ?tn21
              case ty21 => (intro w hSw; (try dsimp only at hSw); go_simp <;> with_reducible rfl)
              (try simp only [Act.put, List.setIfInBounds_toArray, List.set_cons_zero, List.set_cons_succ])
              refine Tw_takeL (i := 8) (v := ?tv22) rfl (by kernel_rfl) (by decide) (by kernel_rfl) (by kernel_rfl) (fun _ _ _ h => h) (by rfl) ?ty22 ?tn22
              case ty22 => (intro w hSw; (try dsimp only at hSw); go_simp <;> with_reducible rfl)
              (try simp only [Act.put, List.setIfInBounds_toArray, List.set_cons_zero, List.set_cons_succ])
              refine Tw_all (rs := [10]) (by kernel_rfl) (by simp) (by decide) (fun hHeld => ?_)
              refine AllT.consL rfl (fun K hK => ?_) (AllT.nil)
              · have c0 := N1.out.cell 0
                have c1 := N1.out.cell 1
                have f0 := N1.out.frozen 0
                have f1 := N1.out.frozen 1
                have zN := N1.out.lt
                go_simp
                refine hK.out _ _ ?_ ?_
                · exact HALL.out _ ((hHeld.1.set (p := ⟨_, 0, none⟩) zg.out (fun b hb => by simp at hb) _).set (p := ⟨_, 1, none⟩) zg.out (fun b hb => by simp at hb) _)
                clear hK K c0 f0 c1 f1 zN
                have N1 := Lib.hid (Bk.set2 N1.out (.string sx) (.slice Ax nx cx))
                (try simp only [Act.put, List.setIfInBounds_toArray, List.set_cons_zero, List.set_cons_succ])
                refine Tw_end (by kernel_rfl) (fun hh => ?_)
                obtain ⟨F11, _⟩ := hh
                clear HALL
                go_wp2_with fail
                go_meet
                exact ⟨_, sx, Ax, nx, cx, rfl, rfl, F11.more N1.out⟩
        · go_simp
          refine hK.out _ _ ?_ ?_
          · (try dsimp only)
            ((go_split_ands; refine HALL.out _ ?_; (first | assumption | (repeat (first | assumption | refine Fr.new ?_ _ | refine Fr.drew ?_ | (refine Fr.set ?_ (by first | exact Nat.le_refl _ | omega | (simp; done) | (simp; omega)) (by first | (simp; done) | (simp; omega)) _))); done)))
          clear hK K
          (try simp only [Act.put, List.setIfInBounds_toArray, List.set_cons_zero, List.set_cons_succ])
          refine Tw_abs ?_
          intro wA20 hA20
          (first | (have N1 := Lib.hid (Bk.of_alloc hA20)) | (have N1 := Lib.hid (Bk.of_alloc_drew hA20)))
          have zg := Lib.hid (show w4.heap.size ≤ _ from hHeld.1.size)
          (first | (have L2 := Lib.hid (Lies.alloc hA20 L2.out)) | (have L2 := Lib.hid (Lies.alloc_drew hA20 L2.out)) | skip)
          (first | (have L3 := Lib.hid (Lies.alloc hA20 L3.out)) | (have L3 := Lib.hid (Lies.alloc_drew hA20 L3.out)) | skip)
          clear hA20
          refine Tw_all (rs := [4]) (by kernel_rfl) (by simp) (by decide) (fun hHeld => ?_)
          refine AllT.consL rfl (fun K hK => ?_) (AllT.nil)
          · go_simp
            (go_at_call 13; go_split_ands; (with_reducible refine (Copy_any s2 ps2 ⟨A2, c2⟩ (by omega) HG2.out _ (Fr.lies HAC2.out (by assumption))).mono ?_); rintro e w7 ⟨g3, rfl, hl3, hk3, hb7⟩; have L3 := Lib.hid hl3; have F4 := Fr.call (by assumption) hb7; (first | (have N1 := Lib.hid (Bk.call N1.out hb7)) | skip); (first | (have L2 := Lib.hid (Lies.call L2.out hb7)) | skip); clear hb7 hl3 hk3)
            refine hK.out _ _ ?_ ?_
            · (try dsimp only)
              ((go_split_ands; refine HALL.out _ ?_; (first | assumption | (repeat (first | assumption | refine Fr.new ?_ _ | refine Fr.drew ?_ | (refine Fr.set ?_ (by first | exact Nat.le_refl _ | omega | (simp; done) | (simp; omega)) (by first | (simp; done) | (simp; omega)) _))); done)))
            clear hK K
            (try simp only [Act.put, List.setIfInBounds_toArray, List.set_cons_zero, List.set_cons_succ])
            refine Tw_all (rs := [5]) (by kernel_rfl) (by simp) (by decide) (fun hHeld => ?_)
            refine AllT.consL rfl (fun K hK => ?_) (AllT.nil)
            · go_simp
              (go_at_call 20; go_split_ands; (with_reducible refine (HJ.out _ _ _ _ _ L2.out L3.out).mono ?_); rintro e w7 ⟨sx, Ax, nx, cx, rfl, hb7⟩; have F4 := Fr.call (by assumption) hb7; (first | (have N1 := Lib.hid (Bk.call N1.out hb7)) | skip); clear hb7)
              refine hK.out _ _ ?_ ?_
              · (try dsimp only)
                ((go_split_ands; refine HALL.out _ ?_; (first | assumption | (repeat (first | assumption | refine Fr.new ?_ _ | refine Fr.drew ?_ | (refine Fr.set ?_ (by first | exact Nat.le_refl _ | omega | (simp; done) | (simp; omega)) (by first | (simp; done) | (simp; omega)) _))); done)))
              clear hK K
              (try simp only [Act.put, List.setIfInBounds_toArray, List.set_cons_zero, List.set_cons_succ])
              refine Tw_takeL (i := 6) (v := ?tv23) rfl (by kernel_rfl) (by decide) (by kernel_rfl) (by kernel_rfl) (fun _ _ _ h => h) (by rfl) ?ty23 ?tn23
              case ty23 => (intro w hSw; (try dsimp only at hSw); go_simp <;> with_reducible rfl)
              (try simp only [Act.put, List.setIfInBounds_toArray, List.set_cons_zero, List.set_cons_succ])
              refine Tw_takeL (i := 7) (v := ?tv24) rfl (by kernel_rfl) (by decide) (by kernel_rfl) (by kernel_rfl) (fun _ _ _ h => h) (by rfl) ?ty24 ?tn24
              case ty24 => (intro w hSw; (try dsimp only at hSw); go_simp <;> with_reducible rfl)
              (try simp only [Act.put, List.setIfInBounds_toArray, List.set_cons_zero, List.set_cons_succ])
              refine Tw_takeL (i := 8) (v := ?tv25) rfl (by kernel_rfl) (by decide) (by kernel_rfl) (by kernel_rfl) (fun _ _ _ h => h) (by rfl) ?ty25 ?tn25
              case ty25 => (intro w hSw; (try dsimp only at hSw); go_simp <;> with_reducible rfl)
              (try simp only [Act.put, List.setIfInBounds_toArray, List.set_cons_zero, List.set_cons_succ])
              refine Tw_all (rs := [10]) (by kernel_rfl) (by simp) (by decide) (fun hHeld => ?_)
              refine AllT.consL rfl (fun K hK => ?_) (AllT.nil)
              · have c0 := N1.out.cell 0
                have c1 := N1.out.cell 1
                have f0 := N1.out.frozen 0
                have f1 := N1.out.frozen 1
                have zN := N1.out.lt
                go_simp
                refine hK.out _ _ ?_ ?_
                · exact HALL.out _ ((hHeld.1.set (p := ⟨_, 0, none⟩) zg.out (fun b hb => by simp at hb) _).set (p := ⟨_, 1, none⟩) zg.out (fun b hb => by simp at hb) _)
                clear hK K c0 f0 c1 f1 zN
                have N1 := Lib.hid (Bk.set2 N1.out (.string sx) (.slice Ax nx cx))
                (try simp only [Act.put, List.setIfInBounds_toArray, List.set_cons_zero, List.set_cons_succ])
                refine Tw_end (by kernel_rfl) (fun hh => ?_)
                obtain ⟨F11, _⟩ := hh
                clear HALL
                go_wp2_with fail
                go_meet
                exact ⟨_, sx, Ax, nx, cx, rfl, rfl, F11.more N1.out⟩
      · go_simp
        refine hK.out _ _ ?_ ?_
        · (try dsimp only)
          ((go_split_ands; refine HALL.out _ ?_; (first | assumption | (repeat (first | assumption | refine Fr.new ?_ _ | refine Fr.drew ?_ | (refine Fr.set ?_ (by first | exact Nat.le_refl _ | omega | (simp; done) | (simp; omega)) (by first | (simp; done) | (simp; omega)) _))); done)))
        clear hK K
        (try simp only [Act.put, List.setIfInBounds_toArray, List.set_cons_zero, List.set_cons_succ])
        refine Tw_abs ?_
        intro wA24 hA24
        (first | (have N1 := Lib.hid (Bk.of_alloc hA24)) | (have N1 := Lib.hid (Bk.of_alloc_drew hA24)))
        have zg := Lib.hid (show w4.heap.size ≤ _ from hHeld.1.size)
        (first | (have L2 := Lib.hid (Lies.alloc hA24 L2.out)) | (have L2 := Lib.hid (Lies.alloc_drew hA24 L2.out)) | skip)
        (first | (have L3 := Lib.hid (Lies.alloc hA24 L3.out)) | (have L3 := Lib.hid (Lies.alloc_drew hA24 L3.out)) | skip)
        clear hA24
        refine Tw_all (rs := [1]) (by kernel_rfl) (by simp) (by decide) (fun hHeld => ?_)
        refine AllT.consL rfl (fun K hK => ?_) (AllT.nil)
        · go_simp
          (go_at_call 13; go_split_ands; (with_reducible refine (Copy_any s ps ⟨A, c⟩ (by omega) HG.out _ (Fr.lies HAC.out (by assumption))).mono ?_); rintro e w7 ⟨g2, rfl, hl2, hk2, hb7⟩; have L2 := Lib.hid hl2; have F4 := Fr.call (by assumption) hb7; (first | (have N1 := Lib.hid (Bk.call N1.out hb7)) | skip); (first | (have L3 := Lib.hid (Lies.call L3.out hb7)) | skip); clear hb7 hl2 hk2)
          refine hK.out _ _ ?_ ?_
          · (try dsimp only)
            ((go_split_ands; refine HALL.out _ ?_; (first | assumption | (repeat (first | assumption | refine Fr.new ?_ _ | refine Fr.drew ?_ | (refine Fr.set ?_ (by first | exact Nat.le_refl _ | omega | (simp; done) | (simp; omega)) (by first | (simp; done) | (simp; omega)) _))); done)))
          clear hK K
          (try simp only [Act.put, List.setIfInBounds_toArray, List.set_cons_zero, List.set_cons_succ])
          refine Tw_all (rs := [4]) (by kernel_rfl) (by simp) (by decide) (fun hHeld => ?_)
          refine AllT.consL rfl (fun K hK => ?_) (AllT.nil)
          · go_simp
            (go_at_call 13; go_split_ands; (with_reducible refine (Copy_any s2 ps2 ⟨A2, c2⟩ (by omega) HG2.out _ (Fr.lies HAC2.out (by assumption))).mono ?_); rintro e w7 ⟨g3, rfl, hl3, hk3, hb7⟩; have L3 := Lib.hid hl3; have F4 := Fr.call (by assumption) hb7; (first | (have N1 := Lib.hid (Bk.call N1.out hb7)) | skip); (first | (have L2 := Lib.hid (Lies.call L2.out hb7)) | skip); clear hb7 hl3 hk3)
            refine hK.out _ _ ?_ ?_
            · (try dsimp only)
              ((go_split_ands; refine HALL.out _ ?_; (first | assumption | (repeat (first | assumption | refine Fr.new ?_ _ | refine Fr.drew ?_ | (refine Fr.set ?_ (by first | exact Nat.le_refl _ | omega | (simp; done) | (simp; omega)) (by first | (simp; done) | (simp; omega)) _))); done)))
            clear hK K
            (try simp only [Act.put, List.setIfInBounds_toArray, List.set_cons_zero, List.set_cons_succ])
            refine Tw_all (rs := [5]) (by kernel_rfl) (by simp) (by decide) (fun hHeld => ?_)
            refine AllT.consL rfl (fun K hK => ?_) (AllT.nil)
            · go_simp
              (go_at_call 20; go_split_ands; (with_reducible refine (HJ.out _ _ _ _ _ L2.out L3.out).mono ?_); rintro e w7 ⟨sx, Ax, nx, cx, rfl, hb7⟩; have F4 := Fr.call (by assumption) hb7; (first | (have N1 := Lib.hid (Bk.call N1.out hb7)) | skip); clear hb7)
              refine hK.out _ _ ?_ ?_
              · (try dsimp only)
                ((go_split_ands; refine HALL.out _ ?_; (first | assumption | (repeat (first | assumption | refine Fr.new ?_ _ | refine Fr.drew ?_ | (refine Fr.set ?_ (by first | exact Nat.le_refl _ | omega | (simp; done) | (simp; omega)) (by first | (simp; done) | (simp; omega)) _))); done)))
              clear hK K
              (try simp only [Act.put, List.setIfInBounds_toArray, List.set_cons_zero, List.set_cons_succ])
              refine Tw_takeL (i := 6) (v := ?tv26) rfl (by kernel_rfl) (by decide) (by kernel_rfl) (by kernel_rfl) (fun _ _ _ h => h) (by rfl) ?ty26 ?tn26
              case ty26 => (intro w hSw; (try dsimp only at hSw); go_simp <;> with_reducible rfl)
              (try simp only [Act.put, List.setIfInBounds_toArray, List.set_cons_zero, List.set_cons_succ])
              refine Tw_takeL (i := 7) (v := ?tv27) rfl (by kernel_rfl) (by decide) (by kernel_rfl) (by kernel_rfl) (fun _ _ _ h => h) (by rfl) ?ty27 ?tn27
              case ty27 => (intro w hSw; (try dsimp only at hSw); go_simp <;> with_reducible rfl)
              (try simp only [Act.put, List.setIfInBounds_toArray, List.set_cons_zero, List.set_cons_succ])
              refine Tw_takeL (i := 8) (v := ?tv28) rfl (by kernel_rfl) (by decide) (by kernel_rfl) (by kernel_rfl) (fun _ _ _ h => h) (by rfl) ?ty28 ?tn28
              case ty28 => (intro w hSw; (try dsimp only at hSw); go_simp <;> with_reducible rfl)
              (try simp only [Act.put, List.setIfInBounds_toArray, List.set_cons_zero, List.set_cons_succ])
              refine Tw_all (rs := [10]) (by kernel_rfl) (by simp) (by decide) (fun hHeld => ?_)
              refine AllT.consL rfl (fun K hK => ?_) (AllT.nil)
              · have c0 := N1.out.cell 0
                have c1 := N1.out.cell 1
                have f0 := N1.out.frozen 0
                have f1 := N1.out.frozen 1
                have zN := N1.out.lt
                go_simp
                refine hK.out _ _ ?_ ?_
                · exact HALL.out _ ((hHeld.1.set (p := ⟨_, 0, none⟩) zg.out (fun b hb => by simp at hb) _).set (p := ⟨_, 1, none⟩) zg.out (fun b hb => by simp at hb) _)
                clear hK K c0 f0 c1 f1 zN
                have N1 := Lib.hid (Bk.set2 N1.out (.string sx) (.slice Ax nx cx))
                (try simp only [Act.put, List.setIfInBounds_toArray, List.set_cons_zero, List.set_cons_succ])
                refine Tw_end (by kernel_rfl) (fun hh => ?_)
                obtain ⟨F11, _⟩ := hh
                clear HALL
                go_wp2_with fail
                go_meet
                exact ⟨_, sx, Ax, nx, cx, rfl, rfl, F11.more N1.out⟩
    case rest =>
      obtain ⟨wb2, rfl⟩ : ∃ W, W = wc := ⟨_, rfl⟩
      obtain ⟨gj, sx, Ax, nx, cx, rfl, rfl, hx⟩ := hcut
      have FB2 := Lib.hid (F4.out.call hx.bl)
      have HX2 := Lib.hid hx
      clear hx F4
      obtain ⟨k0_0, k0_1, kf0, kg0⟩ := (FB2.out.get 3 rfl).two
      have kz0 := (FB2.out.get 3 rfl).lt
      obtain ⟨k1_0, k1_1, k1_2⟩ := (FB2.out.get 2 rfl).three
      have kz1 := (FB2.out.get 2 rfl).lt
      obtain ⟨k2_0, k2_1, k2_2, k2_3⟩ := (FB2.out.get 1 rfl).four
      have kz2 := (FB2.out.get 1 rfl).lt
      obtain ⟨k3_0, k3_1, kf3, kg3⟩ := (FB2.out.get 0 rfl).two
      have kz3 := (FB2.out.get 0 rfl).lt
      go_wp2_with fail
      go_ret
      first | exact ⟨rfl, FB2.out.bl⟩ | exact ⟨rfl, (FB2.out.new _).bl⟩

set_option maxHeartbeats 3200000 in
set_option maxRecDepth 100000 in
theorem ws_bad1 (s : ByteArray) (hs : s.size ≤ maxLen) (ps : List Bp) (A : Option Addr) (c : Nat) (hg : HdOk ⟨A, c⟩) (hl : ps.length ≤ maxLen) (b : Bs) (s2 : ByteArray) (hs2 : s2.size ≤ maxLen) (ps2 : List Bp) (A2 : Option Addr) (c2 : Nat) (hg2 : HdOk ⟨A2, c2⟩) (hl2 : ps2.length ≤ maxLen) (p sq : Int) (hsh : shortB s ps = true) (hsh2 : shortB s2 ps2 = true) (h0 : bothE s ps b = 0) (er : Int) (hr : er ≠ 0) (hb0 : stateE ps p sq = er) (w : World) (hA : Lies w w.heap.size A (ps.flatMap pc)) (hA2 : Lies w w.heap.size A2 (ps2.flatMap pc)) : Calls Try.prog 4 #[.agg #[.string s, .slice A ps.length c], .agg #[.int .i64 b.brk, .int .i64 b.drag, .int .i64 b.drv], .agg #[.int .i64 p, .int .i64 sq, .string s2, .slice A2 ps2.length c2]] w fun e w' => e = .returned (.bool true) ∧ Below w.heap.size w w' := by
  obtain ⟨je, hje⟩ : ∃ je, joiE s ps s2 ps2 = je := ⟨_, rfl⟩
  have HJ : Hid (∀ (A' : Option Addr) (c' : Nat) (A'' : Option Addr) (c'' : Nat) (W : World), Lies W W.heap.size A' (ps.flatMap pc) → Lies W W.heap.size A'' (ps2.flatMap pc) → Calls Try.prog 20 #[.agg #[.string s, .slice A' ps.length c'], .agg #[.string s2, .slice A'' ps2.length c'']] W fun e w' => ∃ (sx : ByteArray) (Ax : Option Addr) (nx cx : Nat), e = .returned (.tuple #[.agg #[.string sx, .slice Ax nx cx], .int .i64 je]) ∧ Below W.heap.size W w') := Lib.hid (fun A' c' A'' c'' W h h2 => by have := joined_gen s hs ps A' c' (by have := (short_iff.1 hsh).2; omega) s2 hs2 ps2 A'' c'' (by have := (short_iff.1 hsh2).2; omega) W h h2; rw [hje] at this; exact this)
  have hnz : nz ((trE s ps).2 :: sE b :: [stateE ps p sq]) = er := by rw [bothE_nz, if_pos h0, hb0, nz_one]
  have HSA : Hid (∀ (A' : Option Addr) (c' : Nat) (W : World), Lies W W.heap.size A' (ps.flatMap pc) → Calls Try.prog 18 #[.agg #[.string s, .slice A' ps.length c'], .agg #[.int .i64 b.brk, .int .i64 b.drag, .int .i64 b.drv], .agg #[.int .i64 p, .int .i64 sq]] W fun e w' => e = .returned (.tuple #[.agg #[.int .i64 0, .int .i64 0], .int .i64 er]) ∧ Below W.heap.size W w') := Lib.hid (fun A' c' W h => StandsAt_bad s hs ps A' c' (by have := (short_iff.1 hsh).2; omega) b p sq er hnz hr W h)
  have F0 := Lib.hid (Fr.b3 w 24 #[.string s, .slice A ps.length c] 26 #[.int .i64 b.brk, .int .i64 b.drag, .int .i64 b.drv] 53 #[.int .i64 p, .int .i64 sq, .string s2, .slice A2 ps2.length c2])
  have HA := Lib.hid hA
  have HG := Lib.hid hg
  have HA2 := Lib.hid hA2
  have HG2 := Lib.hid hg2
  clear hA hg hA2 hg2
  have HSH := Lib.hid hsh
  have HSH2 := Lib.hid hsh2
  have hl14 : ps.length ≤ 14 := (short_iff.1 hsh).2
  have hl142 : ps2.length ≤ 14 := (short_iff.1 hsh2).2
  clear hsh hsh2
  have HE := Lib.hid hb0
  have gn : (er != 0) = true := by simp [hr]
  have ge : (er == 0) = false := by simp [hr]
  have ge2 : ¬ er = 0 := hr
  have H0 := Lib.hid h0
  clear hr hb0 hje hnz h0
  go_enter Try.func4, Try.ntmps4
  go_wp2_with fail
  refine (awake_any _).mono ?_
  rintro e w1 ⟨rfl, hb1⟩
  have G1 := Fr.call F0.out hb1
  obtain ⟨k0_0, k0_1, kf0, kg0⟩ := (G1.get 2 rfl).two
  have kz0 := (G1.get 2 rfl).lt
  obtain ⟨k1_0, k1_1, k1_2⟩ := (G1.get 1 rfl).three
  have kz1 := (G1.get 1 rfl).lt
  obtain ⟨k2_0, k2_1, k2_2, k2_3⟩ := (G1.get 0 rfl).four
  have kz2 := (G1.get 0 rfl).lt
  have F1 : Hid (Fr w _ [(w.heap.size + 1 + 1, 53, #[.int .i64 p, .int .i64 sq, .string s2, .slice A2 ps2.length c2]), (w.heap.size + 1, 26, #[.int .i64 b.brk, .int .i64 b.drag, .int .i64 b.drv]), (w.heap.size, 24, #[.string s, .slice A ps.length c])]) := Lib.hid G1
  clear hb1 G1 F0
  go_wp2_with fail
  refine (Short_any s hs ps A c hl _).mono ?_
  rintro e w2 ⟨rfl, hb2⟩
  rw [HSH.out]
  clear k0_0 k0_1 kf0 kg0 kz0 k1_0 k1_1 k1_2 kz1 k2_0 k2_1 k2_2 k2_3 kz2
  have G2 := Fr.call F1.out hb2
  obtain ⟨k0_0, k0_1, kf0, kg0⟩ := (G2.get 2 rfl).two
  have kz0 := (G2.get 2 rfl).lt
  obtain ⟨k1_0, k1_1, k1_2⟩ := (G2.get 1 rfl).three
  have kz1 := (G2.get 1 rfl).lt
  obtain ⟨k2_0, k2_1, k2_2, k2_3⟩ := (G2.get 0 rfl).four
  have kz2 := (G2.get 0 rfl).lt
  have F2 : Hid (Fr w _ [(w.heap.size + 1 + 1, 53, #[.int .i64 p, .int .i64 sq, .string s2, .slice A2 ps2.length c2]), (w.heap.size + 1, 26, #[.int .i64 b.brk, .int .i64 b.drag, .int .i64 b.drv]), (w.heap.size, 24, #[.string s, .slice A ps.length c])]) := Lib.hid G2
  clear hb2 G2 F1
  go_wp2_with fail
  refine (Short_any s2 hs2 ps2 A2 c2 hl2 _).mono ?_
  rintro e w3 ⟨rfl, hb3⟩
  rw [HSH2.out]
  clear k0_0 k0_1 kf0 kg0 kz0 k1_0 k1_1 k1_2 kz1 k2_0 k2_1 k2_2 k2_3 kz2
  have G3 := Fr.call F2.out hb3
  obtain ⟨k0_0, k0_1, kf0, kg0⟩ := (G3.get 2 rfl).two
  have kz0 := (G3.get 2 rfl).lt
  obtain ⟨k1_0, k1_1, k1_2⟩ := (G3.get 1 rfl).three
  have kz1 := (G3.get 1 rfl).lt
  obtain ⟨k2_0, k2_1, k2_2, k2_3⟩ := (G3.get 0 rfl).four
  have kz2 := (G3.get 0 rfl).lt
  have F3 : Hid (Fr w _ [(w.heap.size + 1 + 1, 53, #[.int .i64 p, .int .i64 sq, .string s2, .slice A2 ps2.length c2]), (w.heap.size + 1, 26, #[.int .i64 b.brk, .int .i64 b.drag, .int .i64 b.drv]), (w.heap.size, 24, #[.string s, .slice A ps.length c])]) := Lib.hid G3
  clear hb3 G3 F2
  go_upto_region 5 with fail
  clear k0_0 k0_1 kf0 kg0 kz0 k1_0 k1_1 k1_2 kz1 k2_0 k2_1 k2_2 k2_3 kz2
  go_cut [7, 8] from 28 to 36 (fun pv ev W => ∃ g : Nat, pv = .pointer (some ⟨g, 0, none⟩) ∧ ev = .int .i64 er ∧ Fr w3 W [(g, 48, #[.int .i64 0, .int .i64 0])])
  case first =>
    refine wp_abs ?_
    intro wnow hnow
    have HALL : Hid (∀ W, Fr w3 W [] → Fr w3 W [] ∧ W.cell? ⟨w.heap.size, 0, none⟩ = some (.string s) ∧ W.cell? ⟨w.heap.size, 1, none⟩ = some (.slice A ps.length c) ∧ W.cell? ⟨w.heap.size + 1, 0, none⟩ = some (.int .i64 b.brk) ∧ W.cell? ⟨w.heap.size + 1, 1, none⟩ = some (.int .i64 b.drag) ∧ W.cell? ⟨w.heap.size + 1, 2, none⟩ = some (.int .i64 b.drv) ∧ W.cell? ⟨w.heap.size + 1 + 1, 0, none⟩ = some (.int .i64 p) ∧ W.cell? ⟨w.heap.size + 1 + 1, 1, none⟩ = some (.int .i64 sq) ∧ W.cell? ⟨w.heap.size + 1 + 1, 2, none⟩ = some (.string s2) ∧ W.cell? ⟨w.heap.size + 1 + 1, 3, none⟩ = some (.slice A2 ps2.length c2)) := Lib.hid (fun W hW => ⟨hW, ((F3.out.get 2 rfl).call hW.bl).cell 0, ((F3.out.get 2 rfl).call hW.bl).cell 1, ((F3.out.get 1 rfl).call hW.bl).cell 0, ((F3.out.get 1 rfl).call hW.bl).cell 1, ((F3.out.get 1 rfl).call hW.bl).cell 2, ((F3.out.get 0 rfl).call hW.bl).cell 0, ((F3.out.get 0 rfl).call hW.bl).cell 1, ((F3.out.get 0 rfl).call hW.bl).cell 2, ((F3.out.get 0 rfl).call hW.bl).cell 3⟩)
    have HAC := Lib.hid (Fr.lies HA.out F3.out)
    have F10 : Fr w3 wnow [] := by subst hnow; exact Fr.nil _
    clear hnow
    refine Tw_start 11 (fun W => Fr w3 W [] ∧ W.cell? ⟨w.heap.size, 0, none⟩ = some (.string s) ∧ W.cell? ⟨w.heap.size, 1, none⟩ = some (.slice A ps.length c) ∧ W.cell? ⟨w.heap.size + 1, 0, none⟩ = some (.int .i64 b.brk) ∧ W.cell? ⟨w.heap.size + 1, 1, none⟩ = some (.int .i64 b.drag) ∧ W.cell? ⟨w.heap.size + 1, 2, none⟩ = some (.int .i64 b.drv) ∧ W.cell? ⟨w.heap.size + 1 + 1, 0, none⟩ = some (.int .i64 p) ∧ W.cell? ⟨w.heap.size + 1 + 1, 1, none⟩ = some (.int .i64 sq) ∧ W.cell? ⟨w.heap.size + 1 + 1, 2, none⟩ = some (.string s2) ∧ W.cell? ⟨w.heap.size + 1 + 1, 3, none⟩ = some (.slice A2 ps2.length c2)) (by kernel_rfl) (by kernel_rfl) rfl ?_ ?_
    · (try dsimp only)
      ((go_split_ands; refine HALL.out _ ?_; (first | assumption | (repeat (first | assumption | refine Fr.new ?_ _ | refine Fr.drew ?_ | (refine Fr.set ?_ (by first | exact Nat.le_refl _ | omega | (simp; done) | (simp; omega)) (by first | (simp; done) | (simp; omega)) _))); done)))
    refine Tw_takeL (i := 0) (v := ?tv29) rfl (by kernel_rfl) (by decide) (by kernel_rfl) (by kernel_rfl) (fun _ _ _ h => h) (by rfl) ?ty29 ?tn29
    case ty29 => (intro w hSw; (try dsimp only at hSw); go_simp <;> with_reducible rfl)
    (try simp only [Act.put, List.setIfInBounds_toArray, List.set_cons_zero, List.set_cons_succ])
    refine Tw_takeL (i := 2) (v := ?tv30) rfl (by kernel_rfl) (by decide) (by kernel_rfl) (by kernel_rfl) (fun _ _ _ h => h) (by rfl) ?ty30 ?tn30
    case ty30 => (intro w hSw; (try dsimp only at hSw); go_simp <;> with_reducible rfl)
    (try simp only [Act.put, List.setIfInBounds_toArray, List.set_cons_zero, List.set_cons_succ])
    refine Tw_takeL (i := 3) (v := ?tv31) rfl (by kernel_rfl) (by decide) (by kernel_rfl) (by kernel_rfl) (fun _ _ _ h => h) (by rfl) ?ty31 ?tn31
    case ty31 => (intro w hSw; (try dsimp only at hSw); go_simp <;> with_reducible rfl)
    (try simp only [Act.put, List.setIfInBounds_toArray, List.set_cons_zero, List.set_cons_succ])
    refine Tw_takeL (i := 4) (v := ?tv32) rfl (by kernel_rfl) (by decide) (by kernel_rfl) (by kernel_rfl) (fun _ _ _ h => h) (by rfl) ?ty32 ?tn32
    case ty32 => (intro w hSw; (try dsimp only at hSw); go_simp <;> with_reducible rfl)
    (try simp only [Act.put, List.setIfInBounds_toArray, List.set_cons_zero, List.set_cons_succ])
    refine Tw_all (rs := [1, 9]) (by kernel_rfl) (by simp) (by decide) (fun hHeld => ?_)
    refine AllT.consL rfl (fun K hK => ?_) (AllT.consL rfl (fun K hK => ?_) (AllT.nil))
    · go_simp
      (go_at_call 13; go_split_ands; (with_reducible refine (Copy_any s ps ⟨A, c⟩ (by omega) HG.out _ (Fr.lies HAC.out (by assumption))).mono ?_); rintro e w7 ⟨g2, rfl, hl2, hk2, hb7⟩; have L2 := Lib.hid hl2; have F4 := Fr.call (by assumption) hb7; (first | (have N1 := Lib.hid (Bk.call N1.out hb7)) | skip); clear hb7 hl2 hk2)
      refine hK.out _ _ ?_ ?_
      · (try dsimp only)
        ((go_split_ands; refine HALL.out _ ?_; (first | assumption | (repeat (first | assumption | refine Fr.new ?_ _ | refine Fr.drew ?_ | (refine Fr.set ?_ (by first | exact Nat.le_refl _ | omega | (simp; done) | (simp; omega)) (by first | (simp; done) | (simp; omega)) _))); done)))
      clear hK K
      (try simp only [Act.put, List.setIfInBounds_toArray, List.set_cons_zero, List.set_cons_succ])
      refine Tw_all (rs := [5, 9]) (by kernel_rfl) (by simp) (by decide) (fun hHeld => ?_)
      refine AllT.consL rfl (fun K hK => ?_) (AllT.consL rfl (fun K hK => ?_) (AllT.nil))
      · go_simp
        (go_at_call 18; go_split_ands; (with_reducible refine (HSA.out _ _ _ L2.out).mono ?_); rintro e w7 ⟨rfl, hb7⟩; skip; have F4 := Fr.call (by assumption) hb7; (first | (have N1 := Lib.hid (Bk.call N1.out hb7)) | skip); clear hb7)
        refine hK.out _ _ ?_ ?_
        · (try dsimp only)
          ((go_split_ands; refine HALL.out _ ?_; (first | assumption | (repeat (first | assumption | refine Fr.new ?_ _ | refine Fr.drew ?_ | (refine Fr.set ?_ (by first | exact Nat.le_refl _ | omega | (simp; done) | (simp; omega)) (by first | (simp; done) | (simp; omega)) _))); done)))
        clear hK K
        (try simp only [Act.put, List.setIfInBounds_toArray, List.set_cons_zero, List.set_cons_succ])
        refine Tw_takeL (i := 6) (v := ?tv33) rfl (by kernel_rfl) (by decide) (by kernel_rfl) (by kernel_rfl) (fun _ _ _ h => h) (by rfl) ?ty33 ?tn33
        case ty33 => (intro w hSw; (try dsimp only at hSw); go_simp <;> with_reducible rfl)
        (try simp only [Act.put, List.setIfInBounds_toArray, List.set_cons_zero, List.set_cons_succ])
        refine Tw_takeL (i := 7) (v := ?tv34) rfl (by kernel_rfl) (by decide) (by kernel_rfl) (by kernel_rfl) (fun _ _ _ h => h) (by rfl) ?ty34 ?tn34
        case ty34 => (intro w hSw; (try dsimp only at hSw); go_simp <;> with_reducible rfl)
        (try simp only [Act.put, List.setIfInBounds_toArray, List.set_cons_zero, List.set_cons_succ])
        refine Tw_takeL (i := 8) (v := ?tv35) rfl (by kernel_rfl) (by decide) (by kernel_rfl) (by kernel_rfl) (fun _ _ _ h => h) (by rfl) ?ty35 ?tn35
        case ty35 => (intro w hSw; (try dsimp only at hSw); go_simp <;> with_reducible rfl)
        (try simp only [Act.put, List.setIfInBounds_toArray, List.set_cons_zero, List.set_cons_succ])
        refine Tw_all (rs := [9]) (by kernel_rfl) (by simp) (by decide) (fun hHeld => ?_)
        refine AllT.consL rfl (fun K hK => ?_) (AllT.nil)
        · go_simp
          refine hK.out _ _ ?_ ?_
          · (try dsimp only)
            ((go_split_ands; refine HALL.out _ ?_; (first | assumption | (repeat (first | assumption | refine Fr.new ?_ _ | refine Fr.drew ?_ | (refine Fr.set ?_ (by first | exact Nat.le_refl _ | omega | (simp; done) | (simp; omega)) (by first | (simp; done) | (simp; omega)) _))); done)))
          clear hK K
          (try simp only [Act.put, List.setIfInBounds_toArray, List.set_cons_zero, List.set_cons_succ])
          refine Tw_abs ?_
          intro wA31 hA31
          (first | (have N1 := Lib.hid (Bk.of_alloc hA31)) | (have N1 := Lib.hid (Bk.of_alloc_drew hA31)))
          have zg := Lib.hid (show w3.heap.size ≤ _ from hHeld.1.size)
          (first | (have L2 := Lib.hid (Lies.alloc hA31 L2.out)) | (have L2 := Lib.hid (Lies.alloc_drew hA31 L2.out)) | skip)
          clear hA31
          refine Tw_all (rs := [10]) (by kernel_rfl) (by simp) (by decide) (fun hHeld => ?_)
          refine AllT.consL rfl (fun K hK => ?_) (AllT.nil)
          · have c0 := N1.out.cell 0
            have c1 := N1.out.cell 1
            have f0 := N1.out.frozen 0
            have f1 := N1.out.frozen 1
            have zN := N1.out.lt
            go_simp
            refine hK.out _ _ ?_ ?_
            · exact HALL.out _ ((hHeld.1.set (p := ⟨_, 0, none⟩) zg.out (fun b hb => by simp at hb) _).set (p := ⟨_, 1, none⟩) zg.out (fun b hb => by simp at hb) _)
            clear hK K c0 f0 c1 f1 zN
            have N1 := Lib.hid (Bk.set2 N1.out (.int .i64 0) (.int .i64 0))
            (try simp only [Act.put, List.setIfInBounds_toArray, List.set_cons_zero, List.set_cons_succ])
            refine Tw_end (by kernel_rfl) (fun hh => ?_)
            obtain ⟨F11, _⟩ := hh
            clear HALL
            go_wp2_with fail
            go_meet
            exact ⟨_, rfl, rfl, F11.more N1.out⟩
      · go_simp
        refine hK.out _ _ ?_ ?_
        · (try dsimp only)
          ((go_split_ands; refine HALL.out _ ?_; (first | assumption | (repeat (first | assumption | refine Fr.new ?_ _ | refine Fr.drew ?_ | (refine Fr.set ?_ (by first | exact Nat.le_refl _ | omega | (simp; done) | (simp; omega)) (by first | (simp; done) | (simp; omega)) _))); done)))
        clear hK K
        (try simp only [Act.put, List.setIfInBounds_toArray, List.set_cons_zero, List.set_cons_succ])
        refine Tw_abs ?_
        intro wA33 hA33
        (first | (have N1 := Lib.hid (Bk.of_alloc hA33)) | (have N1 := Lib.hid (Bk.of_alloc_drew hA33)))
        have zg := Lib.hid (show w3.heap.size ≤ _ from hHeld.1.size)
        (first | (have L2 := Lib.hid (Lies.alloc hA33 L2.out)) | (have L2 := Lib.hid (Lies.alloc_drew hA33 L2.out)) | skip)
        clear hA33
        refine Tw_all (rs := [5]) (by kernel_rfl) (by simp) (by decide) (fun hHeld => ?_)
        refine AllT.consL rfl (fun K hK => ?_) (AllT.nil)
        · go_simp
          (go_at_call 18; go_split_ands; (with_reducible refine (HSA.out _ _ _ L2.out).mono ?_); rintro e w7 ⟨rfl, hb7⟩; skip; have F4 := Fr.call (by assumption) hb7; (first | (have N1 := Lib.hid (Bk.call N1.out hb7)) | skip); clear hb7)
          refine hK.out _ _ ?_ ?_
          · (try dsimp only)
            ((go_split_ands; refine HALL.out _ ?_; (first | assumption | (repeat (first | assumption | refine Fr.new ?_ _ | refine Fr.drew ?_ | (refine Fr.set ?_ (by first | exact Nat.le_refl _ | omega | (simp; done) | (simp; omega)) (by first | (simp; done) | (simp; omega)) _))); done)))
          clear hK K
          (try simp only [Act.put, List.setIfInBounds_toArray, List.set_cons_zero, List.set_cons_succ])
          refine Tw_takeL (i := 6) (v := ?tv36) rfl (by kernel_rfl) (by decide) (by kernel_rfl) (by kernel_rfl) (fun _ _ _ h => h) (by rfl) ?ty36 ?tn36
          case ty36 => (intro w hSw; (try dsimp only at hSw); go_simp <;> with_reducible rfl)
          (try simp only [Act.put, List.setIfInBounds_toArray, List.set_cons_zero, List.set_cons_succ])
          refine Tw_takeL (i := 7) (v := ?tv37) rfl (by kernel_rfl) (by decide) (by kernel_rfl) (by kernel_rfl) (fun _ _ _ h => h) (by rfl) ?ty37 ?tn37
          case ty37 => (intro w hSw; (try dsimp only at hSw); go_simp <;> with_reducible rfl)
          (try simp only [Act.put, List.setIfInBounds_toArray, List.set_cons_zero, List.set_cons_succ])
          refine Tw_takeL (i := 8) (v := ?tv38) rfl (by kernel_rfl) (by decide) (by kernel_rfl) (by kernel_rfl) (fun _ _ _ h => h) (by rfl) ?ty38 ?tn38
          case ty38 => (intro w hSw; (try dsimp only at hSw); go_simp <;> with_reducible rfl)
          (try simp only [Act.put, List.setIfInBounds_toArray, List.set_cons_zero, List.set_cons_succ])
          refine Tw_all (rs := [10]) (by kernel_rfl) (by simp) (by decide) (fun hHeld => ?_)
          refine AllT.consL rfl (fun K hK => ?_) (AllT.nil)
          · have c0 := N1.out.cell 0
            have c1 := N1.out.cell 1
            have f0 := N1.out.frozen 0
            have f1 := N1.out.frozen 1
            have zN := N1.out.lt
            go_simp
            refine hK.out _ _ ?_ ?_
            · exact HALL.out _ ((hHeld.1.set (p := ⟨_, 0, none⟩) zg.out (fun b hb => by simp at hb) _).set (p := ⟨_, 1, none⟩) zg.out (fun b hb => by simp at hb) _)
            clear hK K c0 f0 c1 f1 zN
            have N1 := Lib.hid (Bk.set2 N1.out (.int .i64 0) (.int .i64 0))
            (try simp only [Act.put, List.setIfInBounds_toArray, List.set_cons_zero, List.set_cons_succ])
            refine Tw_end (by kernel_rfl) (fun hh => ?_)
            obtain ⟨F11, _⟩ := hh
            clear HALL
            go_wp2_with fail
            go_meet
            exact ⟨_, rfl, rfl, F11.more N1.out⟩
    · go_simp
      refine hK.out _ _ ?_ ?_
      · (try dsimp only)
        ((go_split_ands; refine HALL.out _ ?_; (first | assumption | (repeat (first | assumption | refine Fr.new ?_ _ | refine Fr.drew ?_ | (refine Fr.set ?_ (by first | exact Nat.le_refl _ | omega | (simp; done) | (simp; omega)) (by first | (simp; done) | (simp; omega)) _))); done)))
      clear hK K
      (try simp only [Act.put, List.setIfInBounds_toArray, List.set_cons_zero, List.set_cons_succ])
      refine Tw_abs ?_
      intro wA36 hA36
      (first | (have N1 := Lib.hid (Bk.of_alloc hA36)) | (have N1 := Lib.hid (Bk.of_alloc_drew hA36)))
      have zg := Lib.hid (show w3.heap.size ≤ _ from hHeld.1.size)
      (first | (have L2 := Lib.hid (Lies.alloc hA36 L2.out)) | (have L2 := Lib.hid (Lies.alloc_drew hA36 L2.out)) | skip)
      clear hA36
      refine Tw_all (rs := [1]) (by kernel_rfl) (by simp) (by decide) (fun hHeld => ?_)
      refine AllT.consL rfl (fun K hK => ?_) (AllT.nil)
      · go_simp
        (go_at_call 13; go_split_ands; (with_reducible refine (Copy_any s ps ⟨A, c⟩ (by omega) HG.out _ (Fr.lies HAC.out (by assumption))).mono ?_); rintro e w7 ⟨g2, rfl, hl2, hk2, hb7⟩; have L2 := Lib.hid hl2; have F4 := Fr.call (by assumption) hb7; (first | (have N1 := Lib.hid (Bk.call N1.out hb7)) | skip); clear hb7 hl2 hk2)
        refine hK.out _ _ ?_ ?_
        · (try dsimp only)
          ((go_split_ands; refine HALL.out _ ?_; (first | assumption | (repeat (first | assumption | refine Fr.new ?_ _ | refine Fr.drew ?_ | (refine Fr.set ?_ (by first | exact Nat.le_refl _ | omega | (simp; done) | (simp; omega)) (by first | (simp; done) | (simp; omega)) _))); done)))
        clear hK K
        (try simp only [Act.put, List.setIfInBounds_toArray, List.set_cons_zero, List.set_cons_succ])
        refine Tw_all (rs := [5]) (by kernel_rfl) (by simp) (by decide) (fun hHeld => ?_)
        refine AllT.consL rfl (fun K hK => ?_) (AllT.nil)
        · go_simp
          (go_at_call 18; go_split_ands; (with_reducible refine (HSA.out _ _ _ L2.out).mono ?_); rintro e w7 ⟨rfl, hb7⟩; skip; have F4 := Fr.call (by assumption) hb7; (first | (have N1 := Lib.hid (Bk.call N1.out hb7)) | skip); clear hb7)
          refine hK.out _ _ ?_ ?_
          · (try dsimp only)
            ((go_split_ands; refine HALL.out _ ?_; (first | assumption | (repeat (first | assumption | refine Fr.new ?_ _ | refine Fr.drew ?_ | (refine Fr.set ?_ (by first | exact Nat.le_refl _ | omega | (simp; done) | (simp; omega)) (by first | (simp; done) | (simp; omega)) _))); done)))
          clear hK K
          (try simp only [Act.put, List.setIfInBounds_toArray, List.set_cons_zero, List.set_cons_succ])
          refine Tw_takeL (i := 6) (v := ?tv39) rfl (by kernel_rfl) (by decide) (by kernel_rfl) (by kernel_rfl) (fun _ _ _ h => h) (by rfl) ?ty39 ?tn39
          case ty39 => (intro w hSw; (try dsimp only at hSw); go_simp <;> with_reducible rfl)
          (try simp only [Act.put, List.setIfInBounds_toArray, List.set_cons_zero, List.set_cons_succ])
          refine Tw_takeL (i := 7) (v := ?tv40) rfl (by kernel_rfl) (by decide) (by kernel_rfl) (by kernel_rfl) (fun _ _ _ h => h) (by rfl) ?ty40 ?tn40
          case ty40 => (intro w hSw; (try dsimp only at hSw); go_simp <;> with_reducible rfl)
          (try simp only [Act.put, List.setIfInBounds_toArray, List.set_cons_zero, List.set_cons_succ])
          refine Tw_takeL (i := 8) (v := ?tv41) rfl (by kernel_rfl) (by decide) (by kernel_rfl) (by kernel_rfl) (fun _ _ _ h => h) (by rfl) ?ty41 ?tn41
          case ty41 => (intro w hSw; (try dsimp only at hSw); go_simp <;> with_reducible rfl)
          (try simp only [Act.put, List.setIfInBounds_toArray, List.set_cons_zero, List.set_cons_succ])
          refine Tw_all (rs := [10]) (by kernel_rfl) (by simp) (by decide) (fun hHeld => ?_)
          refine AllT.consL rfl (fun K hK => ?_) (AllT.nil)
          · have c0 := N1.out.cell 0
            have c1 := N1.out.cell 1
            have f0 := N1.out.frozen 0
            have f1 := N1.out.frozen 1
            have zN := N1.out.lt
            go_simp
            refine hK.out _ _ ?_ ?_
            · exact HALL.out _ ((hHeld.1.set (p := ⟨_, 0, none⟩) zg.out (fun b hb => by simp at hb) _).set (p := ⟨_, 1, none⟩) zg.out (fun b hb => by simp at hb) _)
            clear hK K c0 f0 c1 f1 zN
            have N1 := Lib.hid (Bk.set2 N1.out (.int .i64 0) (.int .i64 0))
            (try simp only [Act.put, List.setIfInBounds_toArray, List.set_cons_zero, List.set_cons_succ])
            refine Tw_end (by kernel_rfl) (fun hh => ?_)
            obtain ⟨F11, _⟩ := hh
            clear HALL
            go_wp2_with fail
            go_meet
            exact ⟨_, rfl, rfl, F11.more N1.out⟩
  case rest =>
    obtain ⟨wb3, rfl⟩ : ∃ W, W = wc := ⟨_, rfl⟩
    obtain ⟨gr, rfl, rfl, hx⟩ := hcut
    have FB3 := Lib.hid (F3.out.call hx.bl)
    have HX3 := Lib.hid hx
    clear hx F3
    obtain ⟨k0_0, k0_1, kf0, kg0⟩ := (FB3.out.get 2 rfl).two
    have kz0 := (FB3.out.get 2 rfl).lt
    obtain ⟨k1_0, k1_1, k1_2⟩ := (FB3.out.get 1 rfl).three
    have kz1 := (FB3.out.get 1 rfl).lt
    obtain ⟨k2_0, k2_1, k2_2, k2_3⟩ := (FB3.out.get 0 rfl).four
    have kz2 := (FB3.out.get 0 rfl).lt
    have FR := Lib.hid (FB3.out.more HX3.out.top)
    clear FB3 HX3
    obtain ⟨k3_0, k3_1, kf3, kg3⟩ := (FR.out.get 0 rfl).two
    have kz3 := (FR.out.get 0 rfl).lt
    go_wp2_with fail
    refine (BothErr_any s hs ps A c hl b _ (Fr.lies HA.out FR.out)).mono ?_
    rintro e w4 ⟨rfl, hb4⟩
    rw [H0.out]
    clear k0_0 k0_1 kf0 kg0 kz0 k1_0 k1_1 k1_2 kz1 k2_0 k2_1 k2_2 k2_3 kz2 k3_0 k3_1 kf3 kg3 kz3
    have G4 := Fr.call FR.out hb4
    obtain ⟨k0_0, k0_1, kf0, kg0⟩ := (G4.get 3 rfl).two
    have kz0 := (G4.get 3 rfl).lt
    obtain ⟨k1_0, k1_1, k1_2⟩ := (G4.get 2 rfl).three
    have kz1 := (G4.get 2 rfl).lt
    obtain ⟨k2_0, k2_1, k2_2, k2_3⟩ := (G4.get 1 rfl).four
    have kz2 := (G4.get 1 rfl).lt
    obtain ⟨k3_0, k3_1, kf3, kg3⟩ := (G4.get 0 rfl).two
    have kz3 := (G4.get 0 rfl).lt
    have F4 : Hid (Fr w _ [(gr, 48, #[.int .i64 0, .int .i64 0]), (w.heap.size + 1 + 1, 53, #[.int .i64 p, .int .i64 sq, .string s2, .slice A2 ps2.length c2]), (w.heap.size + 1, 26, #[.int .i64 b.brk, .int .i64 b.drag, .int .i64 b.drv]), (w.heap.size, 24, #[.string s, .slice A ps.length c])]) := Lib.hid G4
    clear hb4 G4 FR
    go_wp2_with fail
    refine (StateErr_any s ps A c (by omega) p sq _).mono ?_
    rintro e w5 ⟨rfl, hb5⟩
    rw [HE.out]
    clear k0_0 k0_1 kf0 kg0 kz0 k1_0 k1_1 k1_2 kz1 k2_0 k2_1 k2_2 k2_3 kz2 k3_0 k3_1 kf3 kg3 kz3
    have G5 := Fr.call F4.out hb5
    obtain ⟨k0_0, k0_1, kf0, kg0⟩ := (G5.get 3 rfl).two
    have kz0 := (G5.get 3 rfl).lt
    obtain ⟨k1_0, k1_1, k1_2⟩ := (G5.get 2 rfl).three
    have kz1 := (G5.get 2 rfl).lt
    obtain ⟨k2_0, k2_1, k2_2, k2_3⟩ := (G5.get 1 rfl).four
    have kz2 := (G5.get 1 rfl).lt
    obtain ⟨k3_0, k3_1, kf3, kg3⟩ := (G5.get 0 rfl).two
    have kz3 := (G5.get 0 rfl).lt
    have F5 : Hid (Fr w _ [(gr, 48, #[.int .i64 0, .int .i64 0]), (w.heap.size + 1 + 1, 53, #[.int .i64 p, .int .i64 sq, .string s2, .slice A2 ps2.length c2]), (w.heap.size + 1, 26, #[.int .i64 b.brk, .int .i64 b.drag, .int .i64 b.drv]), (w.heap.size, 24, #[.string s, .slice A ps.length c])]) := Lib.hid G5
    clear hb5 G5 F4
    go_upto_region 17 with fail
    clear k0_0 k0_1 kf0 kg0 kz0 k1_0 k1_1 k1_2 kz1 k2_0 k2_1 k2_2 k2_3 kz2 k3_0 k3_1 kf3 kg3 kz3
    go_cut [13, 14] from 67 to 75 (fun jv fv W => ∃ (g : Nat) (sx : ByteArray) (Ax : Option Addr) (nx cx : Nat), jv = .pointer (some ⟨g, 0, none⟩) ∧ fv = .int .i64 je ∧ Fr w5 W [(g, 24, #[.string sx, .slice Ax nx cx])])
    case first =>
      refine wp_abs ?_
      intro wnow hnow
      have HALL : Hid (∀ W, Fr w5 W [] → Fr w5 W [] ∧ W.cell? ⟨w.heap.size, 0, none⟩ = some (.string s) ∧ W.cell? ⟨w.heap.size, 1, none⟩ = some (.slice A ps.length c) ∧ W.cell? ⟨w.heap.size + 1, 0, none⟩ = some (.int .i64 b.brk) ∧ W.cell? ⟨w.heap.size + 1, 1, none⟩ = some (.int .i64 b.drag) ∧ W.cell? ⟨w.heap.size + 1, 2, none⟩ = some (.int .i64 b.drv) ∧ W.cell? ⟨w.heap.size + 1 + 1, 0, none⟩ = some (.int .i64 p) ∧ W.cell? ⟨w.heap.size + 1 + 1, 1, none⟩ = some (.int .i64 sq) ∧ W.cell? ⟨w.heap.size + 1 + 1, 2, none⟩ = some (.string s2) ∧ W.cell? ⟨w.heap.size + 1 + 1, 3, none⟩ = some (.slice A2 ps2.length c2)) := Lib.hid (fun W hW => ⟨hW, ((F5.out.get 3 rfl).call hW.bl).cell 0, ((F5.out.get 3 rfl).call hW.bl).cell 1, ((F5.out.get 2 rfl).call hW.bl).cell 0, ((F5.out.get 2 rfl).call hW.bl).cell 1, ((F5.out.get 2 rfl).call hW.bl).cell 2, ((F5.out.get 1 rfl).call hW.bl).cell 0, ((F5.out.get 1 rfl).call hW.bl).cell 1, ((F5.out.get 1 rfl).call hW.bl).cell 2, ((F5.out.get 1 rfl).call hW.bl).cell 3⟩)
      have HAC := Lib.hid (Fr.lies HA.out F5.out)
      have F10 : Fr w5 wnow [] := by subst hnow; exact (Fr.nil w5).new _
      clear hnow
      have HAC2 := Lib.hid (Fr.lies HA2.out F5.out)
      refine Tw_start 11 (fun W => Fr w5 W [] ∧ W.cell? ⟨w.heap.size, 0, none⟩ = some (.string s) ∧ W.cell? ⟨w.heap.size, 1, none⟩ = some (.slice A ps.length c) ∧ W.cell? ⟨w.heap.size + 1, 0, none⟩ = some (.int .i64 b.brk) ∧ W.cell? ⟨w.heap.size + 1, 1, none⟩ = some (.int .i64 b.drag) ∧ W.cell? ⟨w.heap.size + 1, 2, none⟩ = some (.int .i64 b.drv) ∧ W.cell? ⟨w.heap.size + 1 + 1, 0, none⟩ = some (.int .i64 p) ∧ W.cell? ⟨w.heap.size + 1 + 1, 1, none⟩ = some (.int .i64 sq) ∧ W.cell? ⟨w.heap.size + 1 + 1, 2, none⟩ = some (.string s2) ∧ W.cell? ⟨w.heap.size + 1 + 1, 3, none⟩ = some (.slice A2 ps2.length c2)) (by kernel_rfl) (by kernel_rfl) rfl ?_ ?_
      · (try dsimp only)
        ((go_split_ands; refine HALL.out _ ?_; (first | assumption | (repeat (first | assumption | refine Fr.new ?_ _ | refine Fr.drew ?_ | (refine Fr.set ?_ (by first | exact Nat.le_refl _ | omega | (simp; done) | (simp; omega)) (by first | (simp; done) | (simp; omega)) _))); done)))
      refine Tw_takeL (i := 0) (v := ?tv42) rfl (by kernel_rfl) (by decide) (by kernel_rfl) (by kernel_rfl) (fun _ _ _ h => h) (by rfl) ?ty42 ?tn42
      case ty42 => (intro w hSw; (try dsimp only at hSw); go_simp <;> with_reducible rfl)
      (try simp only [Act.put, List.setIfInBounds_toArray, List.set_cons_zero, List.set_cons_succ])
      refine Tw_takeL (i := 2) (v := ?tv43) rfl (by kernel_rfl) (by decide) (by kernel_rfl) (by kernel_rfl) (fun _ _ _ h => h) (by rfl) ?ty43 ?tn43
      case ty43 => (intro w hSw; (try dsimp only at hSw); go_simp <;> with_reducible rfl)
      (try simp only [Act.put, List.setIfInBounds_toArray, List.set_cons_zero, List.set_cons_succ])
      refine Tw_takeL (i := 3) (v := ?tv44) rfl (by kernel_rfl) (by decide) (by kernel_rfl) (by kernel_rfl) (fun _ _ _ h => h) (by rfl) ?ty44 ?tn44
      case ty44 => (intro w hSw; (try dsimp only at hSw); go_simp <;> with_reducible rfl)
      (try simp only [Act.put, List.setIfInBounds_toArray, List.set_cons_zero, List.set_cons_succ])
      refine Tw_all (rs := [1, 9]) (by kernel_rfl) (by simp) (by decide) (fun hHeld => ?_)
      refine AllT.consL rfl (fun K hK => ?_) (AllT.consL rfl (fun K hK => ?_) (AllT.nil))
      · go_simp
        (go_at_call 13; go_split_ands; (with_reducible refine (Copy_any s ps ⟨A, c⟩ (by omega) HG.out _ (Fr.lies HAC.out (by assumption))).mono ?_); rintro e w7 ⟨g2, rfl, hl2, hk2, hb7⟩; have L2 := Lib.hid hl2; have F4 := Fr.call (by assumption) hb7; (first | (have N1 := Lib.hid (Bk.call N1.out hb7)) | skip); (first | (have L3 := Lib.hid (Lies.call L3.out hb7)) | skip); clear hb7 hl2 hk2)
        refine hK.out _ _ ?_ ?_
        · (try dsimp only)
          ((go_split_ands; refine HALL.out _ ?_; (first | assumption | (repeat (first | assumption | refine Fr.new ?_ _ | refine Fr.drew ?_ | (refine Fr.set ?_ (by first | exact Nat.le_refl _ | omega | (simp; done) | (simp; omega)) (by first | (simp; done) | (simp; omega)) _))); done)))
        clear hK K
        (try simp only [Act.put, List.setIfInBounds_toArray, List.set_cons_zero, List.set_cons_succ])
        refine Tw_all (rs := [4, 9]) (by kernel_rfl) (by simp) (by decide) (fun hHeld => ?_)
        refine AllT.consL rfl (fun K hK => ?_) (AllT.consL rfl (fun K hK => ?_) (AllT.nil))
        · go_simp
          (go_at_call 13; go_split_ands; (with_reducible refine (Copy_any s2 ps2 ⟨A2, c2⟩ (by omega) HG2.out _ (Fr.lies HAC2.out (by assumption))).mono ?_); rintro e w7 ⟨g3, rfl, hl3, hk3, hb7⟩; have L3 := Lib.hid hl3; have F4 := Fr.call (by assumption) hb7; (first | (have N1 := Lib.hid (Bk.call N1.out hb7)) | skip); (first | (have L2 := Lib.hid (Lies.call L2.out hb7)) | skip); clear hb7 hl3 hk3)
          refine hK.out _ _ ?_ ?_
          · (try dsimp only)
            ((go_split_ands; refine HALL.out _ ?_; (first | assumption | (repeat (first | assumption | refine Fr.new ?_ _ | refine Fr.drew ?_ | (refine Fr.set ?_ (by first | exact Nat.le_refl _ | omega | (simp; done) | (simp; omega)) (by first | (simp; done) | (simp; omega)) _))); done)))
          clear hK K
          (try simp only [Act.put, List.setIfInBounds_toArray, List.set_cons_zero, List.set_cons_succ])
          refine Tw_all (rs := [5, 9]) (by kernel_rfl) (by simp) (by decide) (fun hHeld => ?_)
          refine AllT.consL rfl (fun K hK => ?_) (AllT.consL rfl (fun K hK => ?_) (AllT.nil))
          · go_simp
            (go_at_call 20; go_split_ands; (with_reducible refine (HJ.out _ _ _ _ _ L2.out L3.out).mono ?_); rintro e w7 ⟨sx, Ax, nx, cx, rfl, hb7⟩; have F4 := Fr.call (by assumption) hb7; (first | (have N1 := Lib.hid (Bk.call N1.out hb7)) | skip); clear hb7)
            refine hK.out _ _ ?_ ?_
            · (try dsimp only)
              ((go_split_ands; refine HALL.out _ ?_; (first | assumption | (repeat (first | assumption | refine Fr.new ?_ _ | refine Fr.drew ?_ | (refine Fr.set ?_ (by first | exact Nat.le_refl _ | omega | (simp; done) | (simp; omega)) (by first | (simp; done) | (simp; omega)) _))); done)))
            clear hK K
            (try simp only [Act.put, List.setIfInBounds_toArray, List.set_cons_zero, List.set_cons_succ])
            refine Tw_takeL (i := 6) (v := ?tv45) rfl (by kernel_rfl) (by decide) (by kernel_rfl) (by kernel_rfl) (fun _ _ _ h => h) (by rfl) ?ty45 ?tn45
            case ty45 => (intro w hSw; (try dsimp only at hSw); go_simp <;> with_reducible rfl)
            (try simp only [Act.put, List.setIfInBounds_toArray, List.set_cons_zero, List.set_cons_succ])
            refine Tw_takeL (i := 7) (v := ?tv46) rfl (by kernel_rfl) (by decide) (by kernel_rfl) (by kernel_rfl) (fun _ _ _ h => h) (by rfl) ?ty46 ?tn46
            case ty46 => (intro w hSw; (try dsimp only at hSw); go_simp <;> with_reducible rfl)
            (try simp only [Act.put, List.setIfInBounds_toArray, List.set_cons_zero, List.set_cons_succ])
            refine Tw_takeL (i := 8) (v := ?tv47) rfl (by kernel_rfl) (by decide) (by kernel_rfl) (by kernel_rfl) (fun _ _ _ h => h) (by rfl) ?ty47 ?tn47
            case ty47 => (intro w hSw; (try dsimp only at hSw); go_simp <;> with_reducible rfl)
            (try simp only [Act.put, List.setIfInBounds_toArray, List.set_cons_zero, List.set_cons_succ])
            refine Tw_all (rs := [9]) (by kernel_rfl) (by simp) (by decide) (fun hHeld => ?_)
            refine AllT.consL rfl (fun K hK => ?_) (AllT.nil)
            · go_simp
              refine hK.out _ _ ?_ ?_
              · (try dsimp only)
                ((go_split_ands; refine HALL.out _ ?_; (first | assumption | (repeat (first | assumption | refine Fr.new ?_ _ | refine Fr.drew ?_ | (refine Fr.set ?_ (by first | exact Nat.le_refl _ | omega | (simp; done) | (simp; omega)) (by first | (simp; done) | (simp; omega)) _))); done)))
              clear hK K
              (try simp only [Act.put, List.setIfInBounds_toArray, List.set_cons_zero, List.set_cons_succ])
              refine Tw_abs ?_
              intro wA43 hA43
              (first | (have N1 := Lib.hid (Bk.of_alloc hA43)) | (have N1 := Lib.hid (Bk.of_alloc_drew hA43)))
              have zg := Lib.hid (show w5.heap.size ≤ _ from hHeld.1.size)
              (first | (have L2 := Lib.hid (Lies.alloc hA43 L2.out)) | (have L2 := Lib.hid (Lies.alloc_drew hA43 L2.out)) | skip)
              (first | (have L3 := Lib.hid (Lies.alloc hA43 L3.out)) | (have L3 := Lib.hid (Lies.alloc_drew hA43 L3.out)) | skip)
              clear hA43
              refine Tw_all (rs := [10]) (by kernel_rfl) (by simp) (by decide) (fun hHeld => ?_)
              refine AllT.consL rfl (fun K hK => ?_) (AllT.nil)
              · have c0 := N1.out.cell 0
                have c1 := N1.out.cell 1
                have f0 := N1.out.frozen 0
                have f1 := N1.out.frozen 1
                have zN := N1.out.lt
                go_simp
                refine hK.out _ _ ?_ ?_
                · exact HALL.out _ ((hHeld.1.set (p := ⟨_, 0, none⟩) zg.out (fun b hb => by simp at hb) _).set (p := ⟨_, 1, none⟩) zg.out (fun b hb => by simp at hb) _)
                clear hK K c0 f0 c1 f1 zN
                have N1 := Lib.hid (Bk.set2 N1.out (.string sx) (.slice Ax nx cx))
                (try simp only [Act.put, List.setIfInBounds_toArray, List.set_cons_zero, List.set_cons_succ])
                refine Tw_end (by kernel_rfl) (fun hh => ?_)
                obtain ⟨F11, _⟩ := hh
                clear HALL
                go_wp2_with fail
                go_meet
                exact ⟨_, sx, Ax, nx, cx, rfl, rfl, F11.more N1.out⟩
          · go_simp
            refine hK.out _ _ ?_ ?_
            · (try dsimp only)
              ((go_split_ands; refine HALL.out _ ?_; (first | assumption | (repeat (first | assumption | refine Fr.new ?_ _ | refine Fr.drew ?_ | (refine Fr.set ?_ (by first | exact Nat.le_refl _ | omega | (simp; done) | (simp; omega)) (by first | (simp; done) | (simp; omega)) _))); done)))
            clear hK K
            (try simp only [Act.put, List.setIfInBounds_toArray, List.set_cons_zero, List.set_cons_succ])
            refine Tw_abs ?_
            intro wA45 hA45
            (first | (have N1 := Lib.hid (Bk.of_alloc hA45)) | (have N1 := Lib.hid (Bk.of_alloc_drew hA45)))
            have zg := Lib.hid (show w5.heap.size ≤ _ from hHeld.1.size)
            (first | (have L2 := Lib.hid (Lies.alloc hA45 L2.out)) | (have L2 := Lib.hid (Lies.alloc_drew hA45 L2.out)) | skip)
            (first | (have L3 := Lib.hid (Lies.alloc hA45 L3.out)) | (have L3 := Lib.hid (Lies.alloc_drew hA45 L3.out)) | skip)
            clear hA45
            refine Tw_all (rs := [5]) (by kernel_rfl) (by simp) (by decide) (fun hHeld => ?_)
            refine AllT.consL rfl (fun K hK => ?_) (AllT.nil)
            · go_simp
              (go_at_call 20; go_split_ands; (with_reducible refine (HJ.out _ _ _ _ _ L2.out L3.out).mono ?_); rintro e w7 ⟨sx, Ax, nx, cx, rfl, hb7⟩; have F4 := Fr.call (by assumption) hb7; (first | (have N1 := Lib.hid (Bk.call N1.out hb7)) | skip); clear hb7)
              refine hK.out _ _ ?_ ?_
              · (try dsimp only)
                ((go_split_ands; refine HALL.out _ ?_; (first | assumption | (repeat (first | assumption | refine Fr.new ?_ _ | refine Fr.drew ?_ | (refine Fr.set ?_ (by first | exact Nat.le_refl _ | omega | (simp; done) | (simp; omega)) (by first | (simp; done) | (simp; omega)) _))); done)))
              clear hK K
              (try simp only [Act.put, List.setIfInBounds_toArray, List.set_cons_zero, List.set_cons_succ])
              refine Tw_takeL (i := 6) (v := ?tv48) rfl (by kernel_rfl) (by decide) (by kernel_rfl) (by kernel_rfl) (fun _ _ _ h => h) (by rfl) ?ty48 ?tn48
              case ty48 => (intro w hSw; (try dsimp only at hSw); go_simp <;> with_reducible rfl)
              (try simp only [Act.put, List.setIfInBounds_toArray, List.set_cons_zero, List.set_cons_succ])
              refine Tw_takeL (i := 7) (v := ?tv49) rfl (by kernel_rfl) (by decide) (by kernel_rfl) (by kernel_rfl) (fun _ _ _ h => h) (by rfl) ?ty49 ?tn49
              case ty49 => (intro w hSw; (try dsimp only at hSw); go_simp <;> with_reducible rfl)
              (try simp only [Act.put, List.setIfInBounds_toArray, List.set_cons_zero, List.set_cons_succ])
              refine Tw_takeL (i := 8) (v := ?tv50) rfl (by kernel_rfl) (by decide) (by kernel_rfl) (by kernel_rfl) (fun _ _ _ h => h) (by rfl) ?ty50 ?tn50
              case ty50 => (intro w hSw; (try dsimp only at hSw); go_simp <;> with_reducible rfl)
              (try simp only [Act.put, List.setIfInBounds_toArray, List.set_cons_zero, List.set_cons_succ])
              refine Tw_all (rs := [10]) (by kernel_rfl) (by simp) (by decide) (fun hHeld => ?_)
              refine AllT.consL rfl (fun K hK => ?_) (AllT.nil)
              · have c0 := N1.out.cell 0
                have c1 := N1.out.cell 1
                have f0 := N1.out.frozen 0
                have f1 := N1.out.frozen 1
                have zN := N1.out.lt
                go_simp
                refine hK.out _ _ ?_ ?_
                · exact HALL.out _ ((hHeld.1.set (p := ⟨_, 0, none⟩) zg.out (fun b hb => by simp at hb) _).set (p := ⟨_, 1, none⟩) zg.out (fun b hb => by simp at hb) _)
                clear hK K c0 f0 c1 f1 zN
                have N1 := Lib.hid (Bk.set2 N1.out (.string sx) (.slice Ax nx cx))
                (try simp only [Act.put, List.setIfInBounds_toArray, List.set_cons_zero, List.set_cons_succ])
                refine Tw_end (by kernel_rfl) (fun hh => ?_)
                obtain ⟨F11, _⟩ := hh
                clear HALL
                go_wp2_with fail
                go_meet
                exact ⟨_, sx, Ax, nx, cx, rfl, rfl, F11.more N1.out⟩
        · go_simp
          refine hK.out _ _ ?_ ?_
          · (try dsimp only)
            ((go_split_ands; refine HALL.out _ ?_; (first | assumption | (repeat (first | assumption | refine Fr.new ?_ _ | refine Fr.drew ?_ | (refine Fr.set ?_ (by first | exact Nat.le_refl _ | omega | (simp; done) | (simp; omega)) (by first | (simp; done) | (simp; omega)) _))); done)))
          clear hK K
          (try simp only [Act.put, List.setIfInBounds_toArray, List.set_cons_zero, List.set_cons_succ])
          refine Tw_abs ?_
          intro wA48 hA48
          (first | (have N1 := Lib.hid (Bk.of_alloc hA48)) | (have N1 := Lib.hid (Bk.of_alloc_drew hA48)))
          have zg := Lib.hid (show w5.heap.size ≤ _ from hHeld.1.size)
          (first | (have L2 := Lib.hid (Lies.alloc hA48 L2.out)) | (have L2 := Lib.hid (Lies.alloc_drew hA48 L2.out)) | skip)
          (first | (have L3 := Lib.hid (Lies.alloc hA48 L3.out)) | (have L3 := Lib.hid (Lies.alloc_drew hA48 L3.out)) | skip)
          clear hA48
          refine Tw_all (rs := [4]) (by kernel_rfl) (by simp) (by decide) (fun hHeld => ?_)
          refine AllT.consL rfl (fun K hK => ?_) (AllT.nil)
          · go_simp
            (go_at_call 13; go_split_ands; (with_reducible refine (Copy_any s2 ps2 ⟨A2, c2⟩ (by omega) HG2.out _ (Fr.lies HAC2.out (by assumption))).mono ?_); rintro e w7 ⟨g3, rfl, hl3, hk3, hb7⟩; have L3 := Lib.hid hl3; have F4 := Fr.call (by assumption) hb7; (first | (have N1 := Lib.hid (Bk.call N1.out hb7)) | skip); (first | (have L2 := Lib.hid (Lies.call L2.out hb7)) | skip); clear hb7 hl3 hk3)
            refine hK.out _ _ ?_ ?_
            · (try dsimp only)
              ((go_split_ands; refine HALL.out _ ?_; (first | assumption | (repeat (first | assumption | refine Fr.new ?_ _ | refine Fr.drew ?_ | (refine Fr.set ?_ (by first | exact Nat.le_refl _ | omega | (simp; done) | (simp; omega)) (by first | (simp; done) | (simp; omega)) _))); done)))
            clear hK K
            (try simp only [Act.put, List.setIfInBounds_toArray, List.set_cons_zero, List.set_cons_succ])
            refine Tw_all (rs := [5]) (by kernel_rfl) (by simp) (by decide) (fun hHeld => ?_)
            refine AllT.consL rfl (fun K hK => ?_) (AllT.nil)
            · go_simp
              (go_at_call 20; go_split_ands; (with_reducible refine (HJ.out _ _ _ _ _ L2.out L3.out).mono ?_); rintro e w7 ⟨sx, Ax, nx, cx, rfl, hb7⟩; have F4 := Fr.call (by assumption) hb7; (first | (have N1 := Lib.hid (Bk.call N1.out hb7)) | skip); clear hb7)
              refine hK.out _ _ ?_ ?_
              · (try dsimp only)
                ((go_split_ands; refine HALL.out _ ?_; (first | assumption | (repeat (first | assumption | refine Fr.new ?_ _ | refine Fr.drew ?_ | (refine Fr.set ?_ (by first | exact Nat.le_refl _ | omega | (simp; done) | (simp; omega)) (by first | (simp; done) | (simp; omega)) _))); done)))
              clear hK K
              (try simp only [Act.put, List.setIfInBounds_toArray, List.set_cons_zero, List.set_cons_succ])
              refine Tw_takeL (i := 6) (v := ?tv51) rfl (by kernel_rfl) (by decide) (by kernel_rfl) (by kernel_rfl) (fun _ _ _ h => h) (by rfl) ?ty51 ?tn51
              case ty51 => (intro w hSw; (try dsimp only at hSw); go_simp <;> with_reducible rfl)
              (try simp only [Act.put, List.setIfInBounds_toArray, List.set_cons_zero, List.set_cons_succ])
              refine Tw_takeL (i := 7) (v := ?tv52) rfl (by kernel_rfl) (by decide) (by kernel_rfl) (by kernel_rfl) (fun _ _ _ h => h) (by rfl) ?ty52 ?tn52
              case ty52 => (intro w hSw; (try dsimp only at hSw); go_simp <;> with_reducible rfl)
              (try simp only [Act.put, List.setIfInBounds_toArray, List.set_cons_zero, List.set_cons_succ])
              refine Tw_takeL (i := 8) (v := ?tv53) rfl (by kernel_rfl) (by decide) (by kernel_rfl) (by kernel_rfl) (fun _ _ _ h => h) (by rfl) ?ty53 ?tn53
              case ty53 => (intro w hSw; (try dsimp only at hSw); go_simp <;> with_reducible rfl)
              (try simp only [Act.put, List.setIfInBounds_toArray, List.set_cons_zero, List.set_cons_succ])
              refine Tw_all (rs := [10]) (by kernel_rfl) (by simp) (by decide) (fun hHeld => ?_)
              refine AllT.consL rfl (fun K hK => ?_) (AllT.nil)
              · have c0 := N1.out.cell 0
                have c1 := N1.out.cell 1
                have f0 := N1.out.frozen 0
                have f1 := N1.out.frozen 1
                have zN := N1.out.lt
                go_simp
                refine hK.out _ _ ?_ ?_
                · exact HALL.out _ ((hHeld.1.set (p := ⟨_, 0, none⟩) zg.out (fun b hb => by simp at hb) _).set (p := ⟨_, 1, none⟩) zg.out (fun b hb => by simp at hb) _)
                clear hK K c0 f0 c1 f1 zN
                have N1 := Lib.hid (Bk.set2 N1.out (.string sx) (.slice Ax nx cx))
                (try simp only [Act.put, List.setIfInBounds_toArray, List.set_cons_zero, List.set_cons_succ])
                refine Tw_end (by kernel_rfl) (fun hh => ?_)
                obtain ⟨F11, _⟩ := hh
                clear HALL
                go_wp2_with fail
                go_meet
                exact ⟨_, sx, Ax, nx, cx, rfl, rfl, F11.more N1.out⟩
      · go_simp
        refine hK.out _ _ ?_ ?_
        · (try dsimp only)
          ((go_split_ands; refine HALL.out _ ?_; (first | assumption | (repeat (first | assumption | refine Fr.new ?_ _ | refine Fr.drew ?_ | (refine Fr.set ?_ (by first | exact Nat.le_refl _ | omega | (simp; done) | (simp; omega)) (by first | (simp; done) | (simp; omega)) _))); done)))
        clear hK K
        (try simp only [Act.put, List.setIfInBounds_toArray, List.set_cons_zero, List.set_cons_succ])
        refine Tw_abs ?_
        intro wA52 hA52
        (first | (have N1 := Lib.hid (Bk.of_alloc hA52)) | (have N1 := Lib.hid (Bk.of_alloc_drew hA52)))
        have zg := Lib.hid (show w5.heap.size ≤ _ from hHeld.1.size)
        (first | (have L2 := Lib.hid (Lies.alloc hA52 L2.out)) | (have L2 := Lib.hid (Lies.alloc_drew hA52 L2.out)) | skip)
        (first | (have L3 := Lib.hid (Lies.alloc hA52 L3.out)) | (have L3 := Lib.hid (Lies.alloc_drew hA52 L3.out)) | skip)
        clear hA52
        refine Tw_all (rs := [1]) (by kernel_rfl) (by simp) (by decide) (fun hHeld => ?_)
        refine AllT.consL rfl (fun K hK => ?_) (AllT.nil)
        · go_simp
          (go_at_call 13; go_split_ands; (with_reducible refine (Copy_any s ps ⟨A, c⟩ (by omega) HG.out _ (Fr.lies HAC.out (by assumption))).mono ?_); rintro e w7 ⟨g2, rfl, hl2, hk2, hb7⟩; have L2 := Lib.hid hl2; have F4 := Fr.call (by assumption) hb7; (first | (have N1 := Lib.hid (Bk.call N1.out hb7)) | skip); (first | (have L3 := Lib.hid (Lies.call L3.out hb7)) | skip); clear hb7 hl2 hk2)
          refine hK.out _ _ ?_ ?_
          · (try dsimp only)
            ((go_split_ands; refine HALL.out _ ?_; (first | assumption | (repeat (first | assumption | refine Fr.new ?_ _ | refine Fr.drew ?_ | (refine Fr.set ?_ (by first | exact Nat.le_refl _ | omega | (simp; done) | (simp; omega)) (by first | (simp; done) | (simp; omega)) _))); done)))
          clear hK K
          (try simp only [Act.put, List.setIfInBounds_toArray, List.set_cons_zero, List.set_cons_succ])
          refine Tw_all (rs := [4]) (by kernel_rfl) (by simp) (by decide) (fun hHeld => ?_)
          refine AllT.consL rfl (fun K hK => ?_) (AllT.nil)
          · go_simp
            (go_at_call 13; go_split_ands; (with_reducible refine (Copy_any s2 ps2 ⟨A2, c2⟩ (by omega) HG2.out _ (Fr.lies HAC2.out (by assumption))).mono ?_); rintro e w7 ⟨g3, rfl, hl3, hk3, hb7⟩; have L3 := Lib.hid hl3; have F4 := Fr.call (by assumption) hb7; (first | (have N1 := Lib.hid (Bk.call N1.out hb7)) | skip); (first | (have L2 := Lib.hid (Lies.call L2.out hb7)) | skip); clear hb7 hl3 hk3)
            refine hK.out _ _ ?_ ?_
            · (try dsimp only)
              ((go_split_ands; refine HALL.out _ ?_; (first | assumption | (repeat (first | assumption | refine Fr.new ?_ _ | refine Fr.drew ?_ | (refine Fr.set ?_ (by first | exact Nat.le_refl _ | omega | (simp; done) | (simp; omega)) (by first | (simp; done) | (simp; omega)) _))); done)))
            clear hK K
            (try simp only [Act.put, List.setIfInBounds_toArray, List.set_cons_zero, List.set_cons_succ])
            refine Tw_all (rs := [5]) (by kernel_rfl) (by simp) (by decide) (fun hHeld => ?_)
            refine AllT.consL rfl (fun K hK => ?_) (AllT.nil)
            · go_simp
              (go_at_call 20; go_split_ands; (with_reducible refine (HJ.out _ _ _ _ _ L2.out L3.out).mono ?_); rintro e w7 ⟨sx, Ax, nx, cx, rfl, hb7⟩; have F4 := Fr.call (by assumption) hb7; (first | (have N1 := Lib.hid (Bk.call N1.out hb7)) | skip); clear hb7)
              refine hK.out _ _ ?_ ?_
              · (try dsimp only)
                ((go_split_ands; refine HALL.out _ ?_; (first | assumption | (repeat (first | assumption | refine Fr.new ?_ _ | refine Fr.drew ?_ | (refine Fr.set ?_ (by first | exact Nat.le_refl _ | omega | (simp; done) | (simp; omega)) (by first | (simp; done) | (simp; omega)) _))); done)))
              clear hK K
              (try simp only [Act.put, List.setIfInBounds_toArray, List.set_cons_zero, List.set_cons_succ])
              refine Tw_takeL (i := 6) (v := ?tv54) rfl (by kernel_rfl) (by decide) (by kernel_rfl) (by kernel_rfl) (fun _ _ _ h => h) (by rfl) ?ty54 ?tn54
              case ty54 => (intro w hSw; (try dsimp only at hSw); go_simp <;> with_reducible rfl)
              (try simp only [Act.put, List.setIfInBounds_toArray, List.set_cons_zero, List.set_cons_succ])
              refine Tw_takeL (i := 7) (v := ?tv55) rfl (by kernel_rfl) (by decide) (by kernel_rfl) (by kernel_rfl) (fun _ _ _ h => h) (by rfl) ?ty55 ?tn55
              case ty55 => (intro w hSw; (try dsimp only at hSw); go_simp <;> with_reducible rfl)
              (try simp only [Act.put, List.setIfInBounds_toArray, List.set_cons_zero, List.set_cons_succ])
              refine Tw_takeL (i := 8) (v := ?tv56) rfl (by kernel_rfl) (by decide) (by kernel_rfl) (by kernel_rfl) (fun _ _ _ h => h) (by rfl) ?ty56 ?tn56
              case ty56 => (intro w hSw; (try dsimp only at hSw); go_simp <;> with_reducible rfl)
              (try simp only [Act.put, List.setIfInBounds_toArray, List.set_cons_zero, List.set_cons_succ])
              refine Tw_all (rs := [10]) (by kernel_rfl) (by simp) (by decide) (fun hHeld => ?_)
              refine AllT.consL rfl (fun K hK => ?_) (AllT.nil)
              · have c0 := N1.out.cell 0
                have c1 := N1.out.cell 1
                have f0 := N1.out.frozen 0
                have f1 := N1.out.frozen 1
                have zN := N1.out.lt
                go_simp
                refine hK.out _ _ ?_ ?_
                · exact HALL.out _ ((hHeld.1.set (p := ⟨_, 0, none⟩) zg.out (fun b hb => by simp at hb) _).set (p := ⟨_, 1, none⟩) zg.out (fun b hb => by simp at hb) _)
                clear hK K c0 f0 c1 f1 zN
                have N1 := Lib.hid (Bk.set2 N1.out (.string sx) (.slice Ax nx cx))
                (try simp only [Act.put, List.setIfInBounds_toArray, List.set_cons_zero, List.set_cons_succ])
                refine Tw_end (by kernel_rfl) (fun hh => ?_)
                obtain ⟨F11, _⟩ := hh
                clear HALL
                go_wp2_with fail
                go_meet
                exact ⟨_, sx, Ax, nx, cx, rfl, rfl, F11.more N1.out⟩
    case rest =>
      obtain ⟨wb4, rfl⟩ : ∃ W, W = wc := ⟨_, rfl⟩
      obtain ⟨gj, sx, Ax, nx, cx, rfl, rfl, hx⟩ := hcut
      have FB4 := Lib.hid (F5.out.call hx.bl)
      have HX4 := Lib.hid hx
      clear hx F5
      obtain ⟨k0_0, k0_1, kf0, kg0⟩ := (FB4.out.get 3 rfl).two
      have kz0 := (FB4.out.get 3 rfl).lt
      obtain ⟨k1_0, k1_1, k1_2⟩ := (FB4.out.get 2 rfl).three
      have kz1 := (FB4.out.get 2 rfl).lt
      obtain ⟨k2_0, k2_1, k2_2, k2_3⟩ := (FB4.out.get 1 rfl).four
      have kz2 := (FB4.out.get 1 rfl).lt
      obtain ⟨k3_0, k3_1, kf3, kg3⟩ := (FB4.out.get 0 rfl).two
      have kz3 := (FB4.out.get 0 rfl).lt
      go_wp2_with fail
      go_ret
      first | exact ⟨rfl, FB4.out.bl⟩ | exact ⟨rfl, (FB4.out.new _).bl⟩

set_option maxHeartbeats 3200000 in
set_option maxRecDepth 100000 in
theorem ws_none (s : ByteArray) (hs : s.size ≤ maxLen) (ps : List Bp) (A : Option Addr) (c : Nat) (hg : HdOk ⟨A, c⟩) (hl : ps.length ≤ maxLen) (b : Bs) (s2 : ByteArray) (hs2 : s2.size ≤ maxLen) (ps2 : List Bp) (A2 : Option Addr) (c2 : Nat) (hg2 : HdOk ⟨A2, c2⟩) (hl2 : ps2.length ≤ maxLen) (p : Nat) (sq : Int) (hsh : shortB s ps = true) (hsh2 : shortB s2 ps2 = true) (h0 : bothE s ps b = 0) (h1 : stateE ps (p : Int) sq = 0) (hsa : (∀ (A' : Option Addr) (c' : Nat) (W : World), Lies W W.heap.size A' (ps.flatMap pc) → Calls Try.prog 18 #[.agg #[.string s, .slice A' ps.length c'], .agg #[.int .i64 b.brk, .int .i64 b.drag, .int .i64 b.drv], .agg #[.int .i64 (p : Int), .int .i64 sq]] W fun e w' => e = .returned (.tuple #[.agg #[.int .i64 0, .int .i64 0], .int .i64 12]) ∧ Below W.heap.size W w')) (hrs : (∀ (A' : Option Addr) (c' : Nat) (W : World), Lies W W.heap.size A' (ps.flatMap pc) → Calls Try.prog 19 #[.agg #[.string s, .slice A' ps.length c'], .agg #[.int .i64 b.brk, .int .i64 b.drag, .int .i64 b.drv], .agg #[.int .i64 (p : Int), .int .i64 sq]] W fun e w' => e = .returned (.tuple #[.agg #[.int .i64 0, .int .i64 0], .bool false]) ∧ Below W.heap.size W w')) (w : World) (hA : Lies w w.heap.size A (ps.flatMap pc)) (hA2 : Lies w w.heap.size A2 (ps2.flatMap pc)) : Calls Try.prog 4 #[.agg #[.string s, .slice A ps.length c], .agg #[.int .i64 b.brk, .int .i64 b.drag, .int .i64 b.drv], .agg #[.int .i64 (p : Int), .int .i64 sq, .string s2, .slice A2 ps2.length c2]] w fun e w' => e = .returned (.bool true) ∧ Below w.heap.size w w' := by
  obtain ⟨je, hje⟩ : ∃ je, joiE s ps s2 ps2 = je := ⟨_, rfl⟩
  have HJ : Hid (∀ (A' : Option Addr) (c' : Nat) (A'' : Option Addr) (c'' : Nat) (W : World), Lies W W.heap.size A' (ps.flatMap pc) → Lies W W.heap.size A'' (ps2.flatMap pc) → Calls Try.prog 20 #[.agg #[.string s, .slice A' ps.length c'], .agg #[.string s2, .slice A'' ps2.length c'']] W fun e w' => ∃ (sx : ByteArray) (Ax : Option Addr) (nx cx : Nat), e = .returned (.tuple #[.agg #[.string sx, .slice Ax nx cx], .int .i64 je]) ∧ Below W.heap.size W w') := Lib.hid (fun A' c' A'' c'' W h h2 => by have := joined_gen s hs ps A' c' (by have := (short_iff.1 hsh).2; omega) s2 hs2 ps2 A'' c'' (by have := (short_iff.1 hsh2).2; omega) W h h2; rw [hje] at this; exact this)
  obtain ⟨hok, hb⟩ := bothE_zero h0
  obtain ⟨p2, hp2, _, hq0, hq1⟩ := stateE_ok h1
  clear hp2
  have hsb : sE b = 0 := sE_of hb
  obtain ⟨a, rfl⟩ := ps_some hA hok.n0
  have HSA := Lib.hid hsa
  have HRS := Lib.hid hrs
  have F0 := Lib.hid (Fr.b3 w 24 #[.string s, .slice (some a) ps.length c] 26 #[.int .i64 b.brk, .int .i64 b.drag, .int .i64 b.drv] 53 #[.int .i64 (p : Int), .int .i64 sq, .string s2, .slice A2 ps2.length c2])
  have HA := Lib.hid hA
  have HG := Lib.hid hg
  have HA2 := Lib.hid hA2
  have HG2 := Lib.hid hg2
  clear hA hg hA2 hg2
  have HSH := Lib.hid hsh
  have HSH2 := Lib.hid hsh2
  have hl14 : ps.length ≤ 14 := (short_iff.1 hsh).2
  have hl142 : ps2.length ≤ 14 := (short_iff.1 hsh2).2
  clear hsh hsh2
  have H0 := Lib.hid h0
  have H1 := Lib.hid h1
  clear hok hb hsb hq0 hq1 hsa hrs h0 h1 hje
  go_enter Try.func4, Try.ntmps4
  go_wp2_with fail
  refine (awake_any _).mono ?_
  rintro e w1 ⟨rfl, hb1⟩
  have G1 := Fr.call F0.out hb1
  obtain ⟨k0_0, k0_1, kf0, kg0⟩ := (G1.get 2 rfl).two
  have kz0 := (G1.get 2 rfl).lt
  obtain ⟨k1_0, k1_1, k1_2⟩ := (G1.get 1 rfl).three
  have kz1 := (G1.get 1 rfl).lt
  obtain ⟨k2_0, k2_1, k2_2, k2_3⟩ := (G1.get 0 rfl).four
  have kz2 := (G1.get 0 rfl).lt
  have F1 : Hid (Fr w _ [(w.heap.size + 1 + 1, 53, #[.int .i64 (p : Int), .int .i64 sq, .string s2, .slice A2 ps2.length c2]), (w.heap.size + 1, 26, #[.int .i64 b.brk, .int .i64 b.drag, .int .i64 b.drv]), (w.heap.size, 24, #[.string s, .slice (some a) ps.length c])]) := Lib.hid G1
  clear hb1 G1 F0
  go_wp2_with fail
  refine (Short_any s hs ps (some a) c hl _).mono ?_
  rintro e w2 ⟨rfl, hb2⟩
  rw [HSH.out]
  clear k0_0 k0_1 kf0 kg0 kz0 k1_0 k1_1 k1_2 kz1 k2_0 k2_1 k2_2 k2_3 kz2
  have G2 := Fr.call F1.out hb2
  obtain ⟨k0_0, k0_1, kf0, kg0⟩ := (G2.get 2 rfl).two
  have kz0 := (G2.get 2 rfl).lt
  obtain ⟨k1_0, k1_1, k1_2⟩ := (G2.get 1 rfl).three
  have kz1 := (G2.get 1 rfl).lt
  obtain ⟨k2_0, k2_1, k2_2, k2_3⟩ := (G2.get 0 rfl).four
  have kz2 := (G2.get 0 rfl).lt
  have F2 : Hid (Fr w _ [(w.heap.size + 1 + 1, 53, #[.int .i64 (p : Int), .int .i64 sq, .string s2, .slice A2 ps2.length c2]), (w.heap.size + 1, 26, #[.int .i64 b.brk, .int .i64 b.drag, .int .i64 b.drv]), (w.heap.size, 24, #[.string s, .slice (some a) ps.length c])]) := Lib.hid G2
  clear hb2 G2 F1
  go_wp2_with fail
  refine (Short_any s2 hs2 ps2 A2 c2 hl2 _).mono ?_
  rintro e w3 ⟨rfl, hb3⟩
  rw [HSH2.out]
  clear k0_0 k0_1 kf0 kg0 kz0 k1_0 k1_1 k1_2 kz1 k2_0 k2_1 k2_2 k2_3 kz2
  have G3 := Fr.call F2.out hb3
  obtain ⟨k0_0, k0_1, kf0, kg0⟩ := (G3.get 2 rfl).two
  have kz0 := (G3.get 2 rfl).lt
  obtain ⟨k1_0, k1_1, k1_2⟩ := (G3.get 1 rfl).three
  have kz1 := (G3.get 1 rfl).lt
  obtain ⟨k2_0, k2_1, k2_2, k2_3⟩ := (G3.get 0 rfl).four
  have kz2 := (G3.get 0 rfl).lt
  have F3 : Hid (Fr w _ [(w.heap.size + 1 + 1, 53, #[.int .i64 (p : Int), .int .i64 sq, .string s2, .slice A2 ps2.length c2]), (w.heap.size + 1, 26, #[.int .i64 b.brk, .int .i64 b.drag, .int .i64 b.drv]), (w.heap.size, 24, #[.string s, .slice (some a) ps.length c])]) := Lib.hid G3
  clear hb3 G3 F2
  go_upto_region 5 with fail
  clear k0_0 k0_1 kf0 kg0 kz0 k1_0 k1_1 k1_2 kz1 k2_0 k2_1 k2_2 k2_3 kz2
  go_cut [7, 8] from 28 to 36 (fun pv ev W => ∃ g : Nat, pv = .pointer (some ⟨g, 0, none⟩) ∧ ev = .int .i64 12 ∧ Fr w3 W [(g, 48, #[.int .i64 0, .int .i64 0])])
  case first =>
    refine wp_abs ?_
    intro wnow hnow
    have HALL : Hid (∀ W, Fr w3 W [] → Fr w3 W [] ∧ W.cell? ⟨w.heap.size, 0, none⟩ = some (.string s) ∧ W.cell? ⟨w.heap.size, 1, none⟩ = some (.slice (some a) ps.length c) ∧ W.cell? ⟨w.heap.size + 1, 0, none⟩ = some (.int .i64 b.brk) ∧ W.cell? ⟨w.heap.size + 1, 1, none⟩ = some (.int .i64 b.drag) ∧ W.cell? ⟨w.heap.size + 1, 2, none⟩ = some (.int .i64 b.drv) ∧ W.cell? ⟨w.heap.size + 1 + 1, 0, none⟩ = some (.int .i64 (p : Int)) ∧ W.cell? ⟨w.heap.size + 1 + 1, 1, none⟩ = some (.int .i64 sq) ∧ W.cell? ⟨w.heap.size + 1 + 1, 2, none⟩ = some (.string s2) ∧ W.cell? ⟨w.heap.size + 1 + 1, 3, none⟩ = some (.slice A2 ps2.length c2)) := Lib.hid (fun W hW => ⟨hW, ((F3.out.get 2 rfl).call hW.bl).cell 0, ((F3.out.get 2 rfl).call hW.bl).cell 1, ((F3.out.get 1 rfl).call hW.bl).cell 0, ((F3.out.get 1 rfl).call hW.bl).cell 1, ((F3.out.get 1 rfl).call hW.bl).cell 2, ((F3.out.get 0 rfl).call hW.bl).cell 0, ((F3.out.get 0 rfl).call hW.bl).cell 1, ((F3.out.get 0 rfl).call hW.bl).cell 2, ((F3.out.get 0 rfl).call hW.bl).cell 3⟩)
    have HAC := Lib.hid (Fr.lies HA.out F3.out)
    have F10 : Fr w3 wnow [] := by subst hnow; exact Fr.nil _
    clear hnow
    refine Tw_start 11 (fun W => Fr w3 W [] ∧ W.cell? ⟨w.heap.size, 0, none⟩ = some (.string s) ∧ W.cell? ⟨w.heap.size, 1, none⟩ = some (.slice (some a) ps.length c) ∧ W.cell? ⟨w.heap.size + 1, 0, none⟩ = some (.int .i64 b.brk) ∧ W.cell? ⟨w.heap.size + 1, 1, none⟩ = some (.int .i64 b.drag) ∧ W.cell? ⟨w.heap.size + 1, 2, none⟩ = some (.int .i64 b.drv) ∧ W.cell? ⟨w.heap.size + 1 + 1, 0, none⟩ = some (.int .i64 (p : Int)) ∧ W.cell? ⟨w.heap.size + 1 + 1, 1, none⟩ = some (.int .i64 sq) ∧ W.cell? ⟨w.heap.size + 1 + 1, 2, none⟩ = some (.string s2) ∧ W.cell? ⟨w.heap.size + 1 + 1, 3, none⟩ = some (.slice A2 ps2.length c2)) (by kernel_rfl) (by kernel_rfl) rfl ?_ ?_
    · (try dsimp only)
      ((go_split_ands; refine HALL.out _ ?_; (first | assumption | (repeat (first | assumption | refine Fr.new ?_ _ | refine Fr.drew ?_ | (refine Fr.set ?_ (by first | exact Nat.le_refl _ | omega | (simp; done) | (simp; omega)) (by first | (simp; done) | (simp; omega)) _))); done)))
    refine Tw_takeL (i := 0) (v := ?tv57) rfl (by kernel_rfl) (by decide) (by kernel_rfl) (by kernel_rfl) (fun _ _ _ h => h) (by rfl) ?ty57 ?tn57
    case ty57 => (intro w hSw; (try dsimp only at hSw); go_simp <;> with_reducible rfl)
    (try simp only [Act.put, List.setIfInBounds_toArray, List.set_cons_zero, List.set_cons_succ])
    refine Tw_takeL (i := 2) (v := ?tv58) rfl (by kernel_rfl) (by decide) (by kernel_rfl) (by kernel_rfl) (fun _ _ _ h => h) (by rfl) ?ty58 ?tn58
    case ty58 => (intro w hSw; (try dsimp only at hSw); go_simp <;> with_reducible rfl)
    (try simp only [Act.put, List.setIfInBounds_toArray, List.set_cons_zero, List.set_cons_succ])
    refine Tw_takeL (i := 3) (v := ?tv59) rfl (by kernel_rfl) (by decide) (by kernel_rfl) (by kernel_rfl) (fun _ _ _ h => h) (by rfl) ?ty59 ?tn59
    case ty59 => (intro w hSw; (try dsimp only at hSw); go_simp <;> with_reducible rfl)
    (try simp only [Act.put, List.setIfInBounds_toArray, List.set_cons_zero, List.set_cons_succ])
    refine Tw_takeL (i := 4) (v := ?tv60) rfl (by kernel_rfl) (by decide) (by kernel_rfl) (by kernel_rfl) (fun _ _ _ h => h) (by rfl) ?ty60 ?tn60
    case ty60 => (intro w hSw; (try dsimp only at hSw); go_simp <;> with_reducible rfl)
    (try simp only [Act.put, List.setIfInBounds_toArray, List.set_cons_zero, List.set_cons_succ])
    refine Tw_all (rs := [1, 9]) (by kernel_rfl) (by simp) (by decide) (fun hHeld => ?_)
    refine AllT.consL rfl (fun K hK => ?_) (AllT.consL rfl (fun K hK => ?_) (AllT.nil))
    · go_simp
      (go_at_call 13; go_split_ands; (with_reducible refine (Copy_any s ps ⟨(some a), c⟩ (by omega) HG.out _ (Fr.lies HAC.out (by assumption))).mono ?_); rintro e w7 ⟨g2, rfl, hl2, hk2, hb7⟩; have L2 := Lib.hid hl2; have F4 := Fr.call (by assumption) hb7; (first | (have N1 := Lib.hid (Bk.call N1.out hb7)) | skip); clear hb7 hl2 hk2)
      refine hK.out _ _ ?_ ?_
      · (try dsimp only)
        ((go_split_ands; refine HALL.out _ ?_; (first | assumption | (repeat (first | assumption | refine Fr.new ?_ _ | refine Fr.drew ?_ | (refine Fr.set ?_ (by first | exact Nat.le_refl _ | omega | (simp; done) | (simp; omega)) (by first | (simp; done) | (simp; omega)) _))); done)))
      clear hK K
      (try simp only [Act.put, List.setIfInBounds_toArray, List.set_cons_zero, List.set_cons_succ])
      refine Tw_all (rs := [5, 9]) (by kernel_rfl) (by simp) (by decide) (fun hHeld => ?_)
      refine AllT.consL rfl (fun K hK => ?_) (AllT.consL rfl (fun K hK => ?_) (AllT.nil))
      · go_simp
        (go_at_call 18; go_split_ands; (with_reducible refine (HSA.out _ _ _ L2.out).mono ?_); rintro e w7 ⟨rfl, hb7⟩; skip; have F4 := Fr.call (by assumption) hb7; (first | (have N1 := Lib.hid (Bk.call N1.out hb7)) | skip); clear hb7)
        refine hK.out _ _ ?_ ?_
        · (try dsimp only)
          ((go_split_ands; refine HALL.out _ ?_; (first | assumption | (repeat (first | assumption | refine Fr.new ?_ _ | refine Fr.drew ?_ | (refine Fr.set ?_ (by first | exact Nat.le_refl _ | omega | (simp; done) | (simp; omega)) (by first | (simp; done) | (simp; omega)) _))); done)))
        clear hK K
        (try simp only [Act.put, List.setIfInBounds_toArray, List.set_cons_zero, List.set_cons_succ])
        refine Tw_takeL (i := 6) (v := ?tv61) rfl (by kernel_rfl) (by decide) (by kernel_rfl) (by kernel_rfl) (fun _ _ _ h => h) (by rfl) ?ty61 ?tn61
        case ty61 => (intro w hSw; (try dsimp only at hSw); go_simp <;> with_reducible rfl)
        (try simp only [Act.put, List.setIfInBounds_toArray, List.set_cons_zero, List.set_cons_succ])
        refine Tw_takeL (i := 7) (v := ?tv62) rfl (by kernel_rfl) (by decide) (by kernel_rfl) (by kernel_rfl) (fun _ _ _ h => h) (by rfl) ?ty62 ?tn62
        case ty62 => (intro w hSw; (try dsimp only at hSw); go_simp <;> with_reducible rfl)
        (try simp only [Act.put, List.setIfInBounds_toArray, List.set_cons_zero, List.set_cons_succ])
        refine Tw_takeL (i := 8) (v := ?tv63) rfl (by kernel_rfl) (by decide) (by kernel_rfl) (by kernel_rfl) (fun _ _ _ h => h) (by rfl) ?ty63 ?tn63
        case ty63 => (intro w hSw; (try dsimp only at hSw); go_simp <;> with_reducible rfl)
        (try simp only [Act.put, List.setIfInBounds_toArray, List.set_cons_zero, List.set_cons_succ])
        refine Tw_all (rs := [9]) (by kernel_rfl) (by simp) (by decide) (fun hHeld => ?_)
        refine AllT.consL rfl (fun K hK => ?_) (AllT.nil)
        · go_simp
          refine hK.out _ _ ?_ ?_
          · (try dsimp only)
            ((go_split_ands; refine HALL.out _ ?_; (first | assumption | (repeat (first | assumption | refine Fr.new ?_ _ | refine Fr.drew ?_ | (refine Fr.set ?_ (by first | exact Nat.le_refl _ | omega | (simp; done) | (simp; omega)) (by first | (simp; done) | (simp; omega)) _))); done)))
          clear hK K
          (try simp only [Act.put, List.setIfInBounds_toArray, List.set_cons_zero, List.set_cons_succ])
          refine Tw_abs ?_
          intro wA59 hA59
          (first | (have N1 := Lib.hid (Bk.of_alloc hA59)) | (have N1 := Lib.hid (Bk.of_alloc_drew hA59)))
          have zg := Lib.hid (show w3.heap.size ≤ _ from hHeld.1.size)
          (first | (have L2 := Lib.hid (Lies.alloc hA59 L2.out)) | (have L2 := Lib.hid (Lies.alloc_drew hA59 L2.out)) | skip)
          clear hA59
          refine Tw_all (rs := [10]) (by kernel_rfl) (by simp) (by decide) (fun hHeld => ?_)
          refine AllT.consL rfl (fun K hK => ?_) (AllT.nil)
          · have c0 := N1.out.cell 0
            have c1 := N1.out.cell 1
            have f0 := N1.out.frozen 0
            have f1 := N1.out.frozen 1
            have zN := N1.out.lt
            go_simp
            refine hK.out _ _ ?_ ?_
            · exact HALL.out _ ((hHeld.1.set (p := ⟨_, 0, none⟩) zg.out (fun b hb => by simp at hb) _).set (p := ⟨_, 1, none⟩) zg.out (fun b hb => by simp at hb) _)
            clear hK K c0 f0 c1 f1 zN
            have N1 := Lib.hid (Bk.set2 N1.out (.int .i64 0) (.int .i64 0))
            (try simp only [Act.put, List.setIfInBounds_toArray, List.set_cons_zero, List.set_cons_succ])
            refine Tw_end (by kernel_rfl) (fun hh => ?_)
            obtain ⟨F11, _⟩ := hh
            clear HALL
            go_wp2_with fail
            go_meet
            exact ⟨_, rfl, rfl, F11.more N1.out⟩
      · go_simp
        refine hK.out _ _ ?_ ?_
        · (try dsimp only)
          ((go_split_ands; refine HALL.out _ ?_; (first | assumption | (repeat (first | assumption | refine Fr.new ?_ _ | refine Fr.drew ?_ | (refine Fr.set ?_ (by first | exact Nat.le_refl _ | omega | (simp; done) | (simp; omega)) (by first | (simp; done) | (simp; omega)) _))); done)))
        clear hK K
        (try simp only [Act.put, List.setIfInBounds_toArray, List.set_cons_zero, List.set_cons_succ])
        refine Tw_abs ?_
        intro wA61 hA61
        (first | (have N1 := Lib.hid (Bk.of_alloc hA61)) | (have N1 := Lib.hid (Bk.of_alloc_drew hA61)))
        have zg := Lib.hid (show w3.heap.size ≤ _ from hHeld.1.size)
        (first | (have L2 := Lib.hid (Lies.alloc hA61 L2.out)) | (have L2 := Lib.hid (Lies.alloc_drew hA61 L2.out)) | skip)
        clear hA61
        refine Tw_all (rs := [5]) (by kernel_rfl) (by simp) (by decide) (fun hHeld => ?_)
        refine AllT.consL rfl (fun K hK => ?_) (AllT.nil)
        · go_simp
          (go_at_call 18; go_split_ands; (with_reducible refine (HSA.out _ _ _ L2.out).mono ?_); rintro e w7 ⟨rfl, hb7⟩; skip; have F4 := Fr.call (by assumption) hb7; (first | (have N1 := Lib.hid (Bk.call N1.out hb7)) | skip); clear hb7)
          refine hK.out _ _ ?_ ?_
          · (try dsimp only)
            ((go_split_ands; refine HALL.out _ ?_; (first | assumption | (repeat (first | assumption | refine Fr.new ?_ _ | refine Fr.drew ?_ | (refine Fr.set ?_ (by first | exact Nat.le_refl _ | omega | (simp; done) | (simp; omega)) (by first | (simp; done) | (simp; omega)) _))); done)))
          clear hK K
          (try simp only [Act.put, List.setIfInBounds_toArray, List.set_cons_zero, List.set_cons_succ])
          refine Tw_takeL (i := 6) (v := ?tv64) rfl (by kernel_rfl) (by decide) (by kernel_rfl) (by kernel_rfl) (fun _ _ _ h => h) (by rfl) ?ty64 ?tn64
          case ty64 => (intro w hSw; (try dsimp only at hSw); go_simp <;> with_reducible rfl)
          (try simp only [Act.put, List.setIfInBounds_toArray, List.set_cons_zero, List.set_cons_succ])
          refine Tw_takeL (i := 7) (v := ?tv65) rfl (by kernel_rfl) (by decide) (by kernel_rfl) (by kernel_rfl) (fun _ _ _ h => h) (by rfl) ?ty65 ?tn65
          case ty65 => (intro w hSw; (try dsimp only at hSw); go_simp <;> with_reducible rfl)
          (try simp only [Act.put, List.setIfInBounds_toArray, List.set_cons_zero, List.set_cons_succ])
          refine Tw_takeL (i := 8) (v := ?tv66) rfl (by kernel_rfl) (by decide) (by kernel_rfl) (by kernel_rfl) (fun _ _ _ h => h) (by rfl) ?ty66 ?tn66
          case ty66 => (intro w hSw; (try dsimp only at hSw); go_simp <;> with_reducible rfl)
          (try simp only [Act.put, List.setIfInBounds_toArray, List.set_cons_zero, List.set_cons_succ])
          refine Tw_all (rs := [10]) (by kernel_rfl) (by simp) (by decide) (fun hHeld => ?_)
          refine AllT.consL rfl (fun K hK => ?_) (AllT.nil)
          · have c0 := N1.out.cell 0
            have c1 := N1.out.cell 1
            have f0 := N1.out.frozen 0
            have f1 := N1.out.frozen 1
            have zN := N1.out.lt
            go_simp
            refine hK.out _ _ ?_ ?_
            · exact HALL.out _ ((hHeld.1.set (p := ⟨_, 0, none⟩) zg.out (fun b hb => by simp at hb) _).set (p := ⟨_, 1, none⟩) zg.out (fun b hb => by simp at hb) _)
            clear hK K c0 f0 c1 f1 zN
            have N1 := Lib.hid (Bk.set2 N1.out (.int .i64 0) (.int .i64 0))
            (try simp only [Act.put, List.setIfInBounds_toArray, List.set_cons_zero, List.set_cons_succ])
            refine Tw_end (by kernel_rfl) (fun hh => ?_)
            obtain ⟨F11, _⟩ := hh
            clear HALL
            go_wp2_with fail
            go_meet
            exact ⟨_, rfl, rfl, F11.more N1.out⟩
    · go_simp
      refine hK.out _ _ ?_ ?_
      · (try dsimp only)
        ((go_split_ands; refine HALL.out _ ?_; (first | assumption | (repeat (first | assumption | refine Fr.new ?_ _ | refine Fr.drew ?_ | (refine Fr.set ?_ (by first | exact Nat.le_refl _ | omega | (simp; done) | (simp; omega)) (by first | (simp; done) | (simp; omega)) _))); done)))
      clear hK K
      (try simp only [Act.put, List.setIfInBounds_toArray, List.set_cons_zero, List.set_cons_succ])
      refine Tw_abs ?_
      intro wA64 hA64
      (first | (have N1 := Lib.hid (Bk.of_alloc hA64)) | (have N1 := Lib.hid (Bk.of_alloc_drew hA64)))
      have zg := Lib.hid (show w3.heap.size ≤ _ from hHeld.1.size)
      (first | (have L2 := Lib.hid (Lies.alloc hA64 L2.out)) | (have L2 := Lib.hid (Lies.alloc_drew hA64 L2.out)) | skip)
      clear hA64
      refine Tw_all (rs := [1]) (by kernel_rfl) (by simp) (by decide) (fun hHeld => ?_)
      refine AllT.consL rfl (fun K hK => ?_) (AllT.nil)
      · go_simp
        (go_at_call 13; go_split_ands; (with_reducible refine (Copy_any s ps ⟨(some a), c⟩ (by omega) HG.out _ (Fr.lies HAC.out (by assumption))).mono ?_); rintro e w7 ⟨g2, rfl, hl2, hk2, hb7⟩; have L2 := Lib.hid hl2; have F4 := Fr.call (by assumption) hb7; (first | (have N1 := Lib.hid (Bk.call N1.out hb7)) | skip); clear hb7 hl2 hk2)
        refine hK.out _ _ ?_ ?_
        · (try dsimp only)
          ((go_split_ands; refine HALL.out _ ?_; (first | assumption | (repeat (first | assumption | refine Fr.new ?_ _ | refine Fr.drew ?_ | (refine Fr.set ?_ (by first | exact Nat.le_refl _ | omega | (simp; done) | (simp; omega)) (by first | (simp; done) | (simp; omega)) _))); done)))
        clear hK K
        (try simp only [Act.put, List.setIfInBounds_toArray, List.set_cons_zero, List.set_cons_succ])
        refine Tw_all (rs := [5]) (by kernel_rfl) (by simp) (by decide) (fun hHeld => ?_)
        refine AllT.consL rfl (fun K hK => ?_) (AllT.nil)
        · go_simp
          (go_at_call 18; go_split_ands; (with_reducible refine (HSA.out _ _ _ L2.out).mono ?_); rintro e w7 ⟨rfl, hb7⟩; skip; have F4 := Fr.call (by assumption) hb7; (first | (have N1 := Lib.hid (Bk.call N1.out hb7)) | skip); clear hb7)
          refine hK.out _ _ ?_ ?_
          · (try dsimp only)
            ((go_split_ands; refine HALL.out _ ?_; (first | assumption | (repeat (first | assumption | refine Fr.new ?_ _ | refine Fr.drew ?_ | (refine Fr.set ?_ (by first | exact Nat.le_refl _ | omega | (simp; done) | (simp; omega)) (by first | (simp; done) | (simp; omega)) _))); done)))
          clear hK K
          (try simp only [Act.put, List.setIfInBounds_toArray, List.set_cons_zero, List.set_cons_succ])
          refine Tw_takeL (i := 6) (v := ?tv67) rfl (by kernel_rfl) (by decide) (by kernel_rfl) (by kernel_rfl) (fun _ _ _ h => h) (by rfl) ?ty67 ?tn67
          case ty67 => (intro w hSw; (try dsimp only at hSw); go_simp <;> with_reducible rfl)
          (try simp only [Act.put, List.setIfInBounds_toArray, List.set_cons_zero, List.set_cons_succ])
          refine Tw_takeL (i := 7) (v := ?tv68) rfl (by kernel_rfl) (by decide) (by kernel_rfl) (by kernel_rfl) (fun _ _ _ h => h) (by rfl) ?ty68 ?tn68
          case ty68 => (intro w hSw; (try dsimp only at hSw); go_simp <;> with_reducible rfl)
          (try simp only [Act.put, List.setIfInBounds_toArray, List.set_cons_zero, List.set_cons_succ])
          refine Tw_takeL (i := 8) (v := ?tv69) rfl (by kernel_rfl) (by decide) (by kernel_rfl) (by kernel_rfl) (fun _ _ _ h => h) (by rfl) ?ty69 ?tn69
          case ty69 => (intro w hSw; (try dsimp only at hSw); go_simp <;> with_reducible rfl)
          (try simp only [Act.put, List.setIfInBounds_toArray, List.set_cons_zero, List.set_cons_succ])
          refine Tw_all (rs := [10]) (by kernel_rfl) (by simp) (by decide) (fun hHeld => ?_)
          refine AllT.consL rfl (fun K hK => ?_) (AllT.nil)
          · have c0 := N1.out.cell 0
            have c1 := N1.out.cell 1
            have f0 := N1.out.frozen 0
            have f1 := N1.out.frozen 1
            have zN := N1.out.lt
            go_simp
            refine hK.out _ _ ?_ ?_
            · exact HALL.out _ ((hHeld.1.set (p := ⟨_, 0, none⟩) zg.out (fun b hb => by simp at hb) _).set (p := ⟨_, 1, none⟩) zg.out (fun b hb => by simp at hb) _)
            clear hK K c0 f0 c1 f1 zN
            have N1 := Lib.hid (Bk.set2 N1.out (.int .i64 0) (.int .i64 0))
            (try simp only [Act.put, List.setIfInBounds_toArray, List.set_cons_zero, List.set_cons_succ])
            refine Tw_end (by kernel_rfl) (fun hh => ?_)
            obtain ⟨F11, _⟩ := hh
            clear HALL
            go_wp2_with fail
            go_meet
            exact ⟨_, rfl, rfl, F11.more N1.out⟩
  case rest =>
    obtain ⟨wb5, rfl⟩ : ∃ W, W = wc := ⟨_, rfl⟩
    obtain ⟨gr, rfl, rfl, hx⟩ := hcut
    have FB5 := Lib.hid (F3.out.call hx.bl)
    have HX5 := Lib.hid hx
    clear hx F3
    obtain ⟨k0_0, k0_1, kf0, kg0⟩ := (FB5.out.get 2 rfl).two
    have kz0 := (FB5.out.get 2 rfl).lt
    obtain ⟨k1_0, k1_1, k1_2⟩ := (FB5.out.get 1 rfl).three
    have kz1 := (FB5.out.get 1 rfl).lt
    obtain ⟨k2_0, k2_1, k2_2, k2_3⟩ := (FB5.out.get 0 rfl).four
    have kz2 := (FB5.out.get 0 rfl).lt
    have FR := Lib.hid (FB5.out.more HX5.out.top)
    clear FB5 HX5
    obtain ⟨k3_0, k3_1, kf3, kg3⟩ := (FR.out.get 0 rfl).two
    have kz3 := (FR.out.get 0 rfl).lt
    go_wp2_with fail
    refine (BothErr_any s hs ps (some a) c hl b _ (Fr.lies HA.out FR.out)).mono ?_
    rintro e w4 ⟨rfl, hb4⟩
    rw [H0.out]
    clear k0_0 k0_1 kf0 kg0 kz0 k1_0 k1_1 k1_2 kz1 k2_0 k2_1 k2_2 k2_3 kz2 k3_0 k3_1 kf3 kg3 kz3
    have G4 := Fr.call FR.out hb4
    obtain ⟨k0_0, k0_1, kf0, kg0⟩ := (G4.get 3 rfl).two
    have kz0 := (G4.get 3 rfl).lt
    obtain ⟨k1_0, k1_1, k1_2⟩ := (G4.get 2 rfl).three
    have kz1 := (G4.get 2 rfl).lt
    obtain ⟨k2_0, k2_1, k2_2, k2_3⟩ := (G4.get 1 rfl).four
    have kz2 := (G4.get 1 rfl).lt
    obtain ⟨k3_0, k3_1, kf3, kg3⟩ := (G4.get 0 rfl).two
    have kz3 := (G4.get 0 rfl).lt
    have F4 : Hid (Fr w _ [(gr, 48, #[.int .i64 0, .int .i64 0]), (w.heap.size + 1 + 1, 53, #[.int .i64 (p : Int), .int .i64 sq, .string s2, .slice A2 ps2.length c2]), (w.heap.size + 1, 26, #[.int .i64 b.brk, .int .i64 b.drag, .int .i64 b.drv]), (w.heap.size, 24, #[.string s, .slice (some a) ps.length c])]) := Lib.hid G4
    clear hb4 G4 FR
    go_wp2_with fail
    refine (StateErr_any s ps (some a) c (by omega) (p : Int) sq _).mono ?_
    rintro e w5 ⟨rfl, hb5⟩
    rw [H1.out]
    clear k0_0 k0_1 kf0 kg0 kz0 k1_0 k1_1 k1_2 kz1 k2_0 k2_1 k2_2 k2_3 kz2 k3_0 k3_1 kf3 kg3 kz3
    have G5 := Fr.call F4.out hb5
    obtain ⟨k0_0, k0_1, kf0, kg0⟩ := (G5.get 3 rfl).two
    have kz0 := (G5.get 3 rfl).lt
    obtain ⟨k1_0, k1_1, k1_2⟩ := (G5.get 2 rfl).three
    have kz1 := (G5.get 2 rfl).lt
    obtain ⟨k2_0, k2_1, k2_2, k2_3⟩ := (G5.get 1 rfl).four
    have kz2 := (G5.get 1 rfl).lt
    obtain ⟨k3_0, k3_1, kf3, kg3⟩ := (G5.get 0 rfl).two
    have kz3 := (G5.get 0 rfl).lt
    have F5 : Hid (Fr w _ [(gr, 48, #[.int .i64 0, .int .i64 0]), (w.heap.size + 1 + 1, 53, #[.int .i64 (p : Int), .int .i64 sq, .string s2, .slice A2 ps2.length c2]), (w.heap.size + 1, 26, #[.int .i64 b.brk, .int .i64 b.drag, .int .i64 b.drv]), (w.heap.size, 24, #[.string s, .slice (some a) ps.length c])]) := Lib.hid G5
    clear hb5 G5 F4
    have HWN : Hid (∀ b' ∈ ([(gr, 48, #[.int .i64 0, .int .i64 0]), (w.heap.size + 1 + 1, 53, #[.int .i64 (p : Int), .int .i64 sq, .string s2, .slice A2 ps2.length c2]), (w.heap.size + 1, 26, #[.int .i64 b.brk, .int .i64 b.drag, .int .i64 b.drv]), (w.heap.size, 24, #[.string s, .slice (some a) ps.length c])] : List (Nat × TypeId × Array Value)), b'.1 ≠ w5.heap.size) := Lib.hid (fun b' hb' => by have := (F5.out.bk b' hb').lt; omega)
    have HWZ : Hid (w.heap.size ≤ w5.heap.size) := Lib.hid F5.out.bl.size
    have FW := Lib.hid (Fr.box F5.out 48 #[.int .i64 0, .int .i64 0])
    clear F5
    go_wp2_with fail
    refine (HRS.out _ _ _ (Fr.lies HA.out FW.out)).mono ?_
    rintro e w6 ⟨rfl, hb6⟩
    clear k0_0 k0_1 kf0 kg0 kz0 k1_0 k1_1 k1_2 kz1 k2_0 k2_1 k2_2 k2_3 kz2 k3_0 k3_1 kf3 kg3 kz3
    have G6 := Fr.call FW.out hb6
    obtain ⟨k0_0, k0_1, kf0, kg0⟩ := (G6.get 4 rfl).two
    have kz0 := (G6.get 4 rfl).lt
    obtain ⟨k1_0, k1_1, k1_2⟩ := (G6.get 3 rfl).three
    have kz1 := (G6.get 3 rfl).lt
    obtain ⟨k2_0, k2_1, k2_2, k2_3⟩ := (G6.get 2 rfl).four
    have kz2 := (G6.get 2 rfl).lt
    obtain ⟨k3_0, k3_1, kf3, kg3⟩ := (G6.get 1 rfl).two
    have kz3 := (G6.get 1 rfl).lt
    obtain ⟨k4_0, k4_1, kf4, kg4⟩ := (G6.get 0 rfl).two
    have kz4 := (G6.get 0 rfl).lt
    have F6 : Hid (Fr w _ [(w5.heap.size, 48, #[.int .i64 0, .int .i64 0]), (gr, 48, #[.int .i64 0, .int .i64 0]), (w.heap.size + 1 + 1, 53, #[.int .i64 (p : Int), .int .i64 sq, .string s2, .slice A2 ps2.length c2]), (w.heap.size + 1, 26, #[.int .i64 b.brk, .int .i64 b.drag, .int .i64 b.drv]), (w.heap.size, 24, #[.string s, .slice (some a) ps.length c])]) := Lib.hid G6
    clear hb6 G6 FW
    have zw := (F6.out.get 0 rfl).lt
    go_upto_region 13 with fail
    refine wp_abs ?_
    intro wq hq
    have FQ : Hid (Fr w wq [(w5.heap.size, 48, #[.int .i64 0, .int .i64 0]), (gr, 48, #[.int .i64 0, .int .i64 0]), (w.heap.size + 1 + 1, 53, #[.int .i64 (p : Int), .int .i64 sq, .string s2, .slice A2 ps2.length c2]), (w.heap.size + 1, 26, #[.int .i64 b.brk, .int .i64 b.drag, .int .i64 b.drv]), (w.heap.size, 24, #[.string s, .slice (some a) ps.length c])]) := Lib.hid (by
      subst hq
      have h := (F6.out.put2a HWZ.out HWN.out (.int .i64 0) (.int .i64 0)).new (.cells #[.int .i64 0, .int .i64 0] 48)
      exact h)
    clear hq zw F6 k0_0 k0_1 kf0 kg0 kz0 k1_0 k1_1 k1_2 kz1 k2_0 k2_1 k2_2 k2_3 kz2 k3_0 k3_1 kf3 kg3 kz3 k4_0 k4_1 kf4 kg4 kz4
    obtain ⟨k0_0, k0_1, kf0, kg0⟩ := (FQ.out.get 4 rfl).two
    have kz0 := (FQ.out.get 4 rfl).lt
    obtain ⟨k1_0, k1_1, k1_2⟩ := (FQ.out.get 3 rfl).three
    have kz1 := (FQ.out.get 3 rfl).lt
    obtain ⟨k2_0, k2_1, k2_2, k2_3⟩ := (FQ.out.get 2 rfl).four
    have kz2 := (FQ.out.get 2 rfl).lt
    obtain ⟨k3_0, k3_1, kf3, kg3⟩ := (FQ.out.get 1 rfl).two
    have kz3 := (FQ.out.get 1 rfl).lt
    obtain ⟨k4_0, k4_1, kf4, kg4⟩ := (FQ.out.get 0 rfl).two
    have kz4 := (FQ.out.get 0 rfl).lt
    go_upto_region 17 with fail
    clear k0_0 k0_1 kf0 kg0 kz0 k1_0 k1_1 k1_2 kz1 k2_0 k2_1 k2_2 k2_3 kz2 k3_0 k3_1 kf3 kg3 kz3 k4_0 k4_1 kf4 kg4 kz4
    go_cut [13, 14] from 67 to 75 (fun jv fv W => ∃ (g : Nat) (sx : ByteArray) (Ax : Option Addr) (nx cx : Nat), jv = .pointer (some ⟨g, 0, none⟩) ∧ fv = .int .i64 je ∧ Fr wq W [(g, 24, #[.string sx, .slice Ax nx cx])])
    case first =>
      refine wp_abs ?_
      intro wnow hnow
      have HALL : Hid (∀ W, Fr wq W [] → Fr wq W [] ∧ W.cell? ⟨w.heap.size, 0, none⟩ = some (.string s) ∧ W.cell? ⟨w.heap.size, 1, none⟩ = some (.slice (some a) ps.length c) ∧ W.cell? ⟨w.heap.size + 1, 0, none⟩ = some (.int .i64 b.brk) ∧ W.cell? ⟨w.heap.size + 1, 1, none⟩ = some (.int .i64 b.drag) ∧ W.cell? ⟨w.heap.size + 1, 2, none⟩ = some (.int .i64 b.drv) ∧ W.cell? ⟨w.heap.size + 1 + 1, 0, none⟩ = some (.int .i64 (p : Int)) ∧ W.cell? ⟨w.heap.size + 1 + 1, 1, none⟩ = some (.int .i64 sq) ∧ W.cell? ⟨w.heap.size + 1 + 1, 2, none⟩ = some (.string s2) ∧ W.cell? ⟨w.heap.size + 1 + 1, 3, none⟩ = some (.slice A2 ps2.length c2)) := Lib.hid (fun W hW => ⟨hW, ((FQ.out.get 4 rfl).call hW.bl).cell 0, ((FQ.out.get 4 rfl).call hW.bl).cell 1, ((FQ.out.get 3 rfl).call hW.bl).cell 0, ((FQ.out.get 3 rfl).call hW.bl).cell 1, ((FQ.out.get 3 rfl).call hW.bl).cell 2, ((FQ.out.get 2 rfl).call hW.bl).cell 0, ((FQ.out.get 2 rfl).call hW.bl).cell 1, ((FQ.out.get 2 rfl).call hW.bl).cell 2, ((FQ.out.get 2 rfl).call hW.bl).cell 3⟩)
      have HAC := Lib.hid (Fr.lies HA.out FQ.out)
      have F10 : Fr wq wnow [] := by subst hnow; exact Fr.nil _
      clear hnow
      have HAC2 := Lib.hid (Fr.lies HA2.out FQ.out)
      refine Tw_start 11 (fun W => Fr wq W [] ∧ W.cell? ⟨w.heap.size, 0, none⟩ = some (.string s) ∧ W.cell? ⟨w.heap.size, 1, none⟩ = some (.slice (some a) ps.length c) ∧ W.cell? ⟨w.heap.size + 1, 0, none⟩ = some (.int .i64 b.brk) ∧ W.cell? ⟨w.heap.size + 1, 1, none⟩ = some (.int .i64 b.drag) ∧ W.cell? ⟨w.heap.size + 1, 2, none⟩ = some (.int .i64 b.drv) ∧ W.cell? ⟨w.heap.size + 1 + 1, 0, none⟩ = some (.int .i64 (p : Int)) ∧ W.cell? ⟨w.heap.size + 1 + 1, 1, none⟩ = some (.int .i64 sq) ∧ W.cell? ⟨w.heap.size + 1 + 1, 2, none⟩ = some (.string s2) ∧ W.cell? ⟨w.heap.size + 1 + 1, 3, none⟩ = some (.slice A2 ps2.length c2)) (by kernel_rfl) (by kernel_rfl) rfl ?_ ?_
      · (try dsimp only)
        ((go_split_ands; refine HALL.out _ ?_; (first | assumption | (repeat (first | assumption | refine Fr.new ?_ _ | refine Fr.drew ?_ | (refine Fr.set ?_ (by first | exact Nat.le_refl _ | omega | (simp; done) | (simp; omega)) (by first | (simp; done) | (simp; omega)) _))); done)))
      refine Tw_takeL (i := 0) (v := ?tv70) rfl (by kernel_rfl) (by decide) (by kernel_rfl) (by kernel_rfl) (fun _ _ _ h => h) (by rfl) ?ty70 ?tn70
      case ty70 => (intro w hSw; (try dsimp only at hSw); go_simp <;> with_reducible rfl)
      (try simp only [Act.put, List.setIfInBounds_toArray, List.set_cons_zero, List.set_cons_succ])
      refine Tw_takeL (i := 2) (v := ?tv71) rfl (by kernel_rfl) (by decide) (by kernel_rfl) (by kernel_rfl) (fun _ _ _ h => h) (by rfl) ?ty71 ?tn71
      case ty71 => (intro w hSw; (try dsimp only at hSw); go_simp <;> with_reducible rfl)
      (try simp only [Act.put, List.setIfInBounds_toArray, List.set_cons_zero, List.set_cons_succ])
      refine Tw_takeL (i := 3) (v := ?tv72) rfl (by kernel_rfl) (by decide) (by kernel_rfl) (by kernel_rfl) (fun _ _ _ h => h) (by rfl) ?ty72 ?tn72
      case ty72 => (intro w hSw; (try dsimp only at hSw); go_simp <;> with_reducible rfl)
      (try simp only [Act.put, List.setIfInBounds_toArray, List.set_cons_zero, List.set_cons_succ])
      refine Tw_all (rs := [1, 9]) (by kernel_rfl) (by simp) (by decide) (fun hHeld => ?_)
      refine AllT.consL rfl (fun K hK => ?_) (AllT.consL rfl (fun K hK => ?_) (AllT.nil))
      · go_simp
        (go_at_call 13; go_split_ands; (with_reducible refine (Copy_any s ps ⟨(some a), c⟩ (by omega) HG.out _ (Fr.lies HAC.out (by assumption))).mono ?_); rintro e w7 ⟨g2, rfl, hl2, hk2, hb7⟩; have L2 := Lib.hid hl2; have F4 := Fr.call (by assumption) hb7; (first | (have N1 := Lib.hid (Bk.call N1.out hb7)) | skip); (first | (have L3 := Lib.hid (Lies.call L3.out hb7)) | skip); clear hb7 hl2 hk2)
        refine hK.out _ _ ?_ ?_
        · (try dsimp only)
          ((go_split_ands; refine HALL.out _ ?_; (first | assumption | (repeat (first | assumption | refine Fr.new ?_ _ | refine Fr.drew ?_ | (refine Fr.set ?_ (by first | exact Nat.le_refl _ | omega | (simp; done) | (simp; omega)) (by first | (simp; done) | (simp; omega)) _))); done)))
        clear hK K
        (try simp only [Act.put, List.setIfInBounds_toArray, List.set_cons_zero, List.set_cons_succ])
        refine Tw_all (rs := [4, 9]) (by kernel_rfl) (by simp) (by decide) (fun hHeld => ?_)
        refine AllT.consL rfl (fun K hK => ?_) (AllT.consL rfl (fun K hK => ?_) (AllT.nil))
        · go_simp
          (go_at_call 13; go_split_ands; (with_reducible refine (Copy_any s2 ps2 ⟨A2, c2⟩ (by omega) HG2.out _ (Fr.lies HAC2.out (by assumption))).mono ?_); rintro e w7 ⟨g3, rfl, hl3, hk3, hb7⟩; have L3 := Lib.hid hl3; have F4 := Fr.call (by assumption) hb7; (first | (have N1 := Lib.hid (Bk.call N1.out hb7)) | skip); (first | (have L2 := Lib.hid (Lies.call L2.out hb7)) | skip); clear hb7 hl3 hk3)
          refine hK.out _ _ ?_ ?_
          · (try dsimp only)
            ((go_split_ands; refine HALL.out _ ?_; (first | assumption | (repeat (first | assumption | refine Fr.new ?_ _ | refine Fr.drew ?_ | (refine Fr.set ?_ (by first | exact Nat.le_refl _ | omega | (simp; done) | (simp; omega)) (by first | (simp; done) | (simp; omega)) _))); done)))
          clear hK K
          (try simp only [Act.put, List.setIfInBounds_toArray, List.set_cons_zero, List.set_cons_succ])
          refine Tw_all (rs := [5, 9]) (by kernel_rfl) (by simp) (by decide) (fun hHeld => ?_)
          refine AllT.consL rfl (fun K hK => ?_) (AllT.consL rfl (fun K hK => ?_) (AllT.nil))
          · go_simp
            (go_at_call 20; go_split_ands; (with_reducible refine (HJ.out _ _ _ _ _ L2.out L3.out).mono ?_); rintro e w7 ⟨sx, Ax, nx, cx, rfl, hb7⟩; have F4 := Fr.call (by assumption) hb7; (first | (have N1 := Lib.hid (Bk.call N1.out hb7)) | skip); clear hb7)
            refine hK.out _ _ ?_ ?_
            · (try dsimp only)
              ((go_split_ands; refine HALL.out _ ?_; (first | assumption | (repeat (first | assumption | refine Fr.new ?_ _ | refine Fr.drew ?_ | (refine Fr.set ?_ (by first | exact Nat.le_refl _ | omega | (simp; done) | (simp; omega)) (by first | (simp; done) | (simp; omega)) _))); done)))
            clear hK K
            (try simp only [Act.put, List.setIfInBounds_toArray, List.set_cons_zero, List.set_cons_succ])
            refine Tw_takeL (i := 6) (v := ?tv73) rfl (by kernel_rfl) (by decide) (by kernel_rfl) (by kernel_rfl) (fun _ _ _ h => h) (by rfl) ?ty73 ?tn73
            case ty73 => (intro w hSw; (try dsimp only at hSw); go_simp <;> with_reducible rfl)
            (try simp only [Act.put, List.setIfInBounds_toArray, List.set_cons_zero, List.set_cons_succ])
            refine Tw_takeL (i := 7) (v := ?tv74) rfl (by kernel_rfl) (by decide) (by kernel_rfl) (by kernel_rfl) (fun _ _ _ h => h) (by rfl) ?ty74 ?tn74
            case ty74 => (intro w hSw; (try dsimp only at hSw); go_simp <;> with_reducible rfl)
            (try simp only [Act.put, List.setIfInBounds_toArray, List.set_cons_zero, List.set_cons_succ])
            refine Tw_takeL (i := 8) (v := ?tv75) rfl (by kernel_rfl) (by decide) (by kernel_rfl) (by kernel_rfl) (fun _ _ _ h => h) (by rfl) ?ty75 ?tn75
            case ty75 => (intro w hSw; (try dsimp only at hSw); go_simp <;> with_reducible rfl)
            (try simp only [Act.put, List.setIfInBounds_toArray, List.set_cons_zero, List.set_cons_succ])
            refine Tw_all (rs := [9]) (by kernel_rfl) (by simp) (by decide) (fun hHeld => ?_)
            refine AllT.consL rfl (fun K hK => ?_) (AllT.nil)
            · go_simp
              refine hK.out _ _ ?_ ?_
              · (try dsimp only)
                ((go_split_ands; refine HALL.out _ ?_; (first | assumption | (repeat (first | assumption | refine Fr.new ?_ _ | refine Fr.drew ?_ | (refine Fr.set ?_ (by first | exact Nat.le_refl _ | omega | (simp; done) | (simp; omega)) (by first | (simp; done) | (simp; omega)) _))); done)))
              clear hK K
              (try simp only [Act.put, List.setIfInBounds_toArray, List.set_cons_zero, List.set_cons_succ])
              refine Tw_abs ?_
              intro wA71 hA71
              (first | (have N1 := Lib.hid (Bk.of_alloc hA71)) | (have N1 := Lib.hid (Bk.of_alloc_drew hA71)))
              have zg := Lib.hid (show wq.heap.size ≤ _ from hHeld.1.size)
              (first | (have L2 := Lib.hid (Lies.alloc hA71 L2.out)) | (have L2 := Lib.hid (Lies.alloc_drew hA71 L2.out)) | skip)
              (first | (have L3 := Lib.hid (Lies.alloc hA71 L3.out)) | (have L3 := Lib.hid (Lies.alloc_drew hA71 L3.out)) | skip)
              clear hA71
              refine Tw_all (rs := [10]) (by kernel_rfl) (by simp) (by decide) (fun hHeld => ?_)
              refine AllT.consL rfl (fun K hK => ?_) (AllT.nil)
              · have c0 := N1.out.cell 0
                have c1 := N1.out.cell 1
                have f0 := N1.out.frozen 0
                have f1 := N1.out.frozen 1
                have zN := N1.out.lt
                go_simp
                refine hK.out _ _ ?_ ?_
                · exact HALL.out _ ((hHeld.1.set (p := ⟨_, 0, none⟩) zg.out (fun b hb => by simp at hb) _).set (p := ⟨_, 1, none⟩) zg.out (fun b hb => by simp at hb) _)
                clear hK K c0 f0 c1 f1 zN
                have N1 := Lib.hid (Bk.set2 N1.out (.string sx) (.slice Ax nx cx))
                (try simp only [Act.put, List.setIfInBounds_toArray, List.set_cons_zero, List.set_cons_succ])
                refine Tw_end (by kernel_rfl) (fun hh => ?_)
                obtain ⟨F11, _⟩ := hh
                clear HALL
                go_wp2_with fail
                go_meet
                exact ⟨_, sx, Ax, nx, cx, rfl, rfl, F11.more N1.out⟩
          · go_simp
            refine hK.out _ _ ?_ ?_
            · (try dsimp only)
              ((go_split_ands; refine HALL.out _ ?_; (first | assumption | (repeat (first | assumption | refine Fr.new ?_ _ | refine Fr.drew ?_ | (refine Fr.set ?_ (by first | exact Nat.le_refl _ | omega | (simp; done) | (simp; omega)) (by first | (simp; done) | (simp; omega)) _))); done)))
            clear hK K
            (try simp only [Act.put, List.setIfInBounds_toArray, List.set_cons_zero, List.set_cons_succ])
            refine Tw_abs ?_
            intro wA73 hA73
            (first | (have N1 := Lib.hid (Bk.of_alloc hA73)) | (have N1 := Lib.hid (Bk.of_alloc_drew hA73)))
            have zg := Lib.hid (show wq.heap.size ≤ _ from hHeld.1.size)
            (first | (have L2 := Lib.hid (Lies.alloc hA73 L2.out)) | (have L2 := Lib.hid (Lies.alloc_drew hA73 L2.out)) | skip)
            (first | (have L3 := Lib.hid (Lies.alloc hA73 L3.out)) | (have L3 := Lib.hid (Lies.alloc_drew hA73 L3.out)) | skip)
            clear hA73
            refine Tw_all (rs := [5]) (by kernel_rfl) (by simp) (by decide) (fun hHeld => ?_)
            refine AllT.consL rfl (fun K hK => ?_) (AllT.nil)
            · go_simp
              (go_at_call 20; go_split_ands; (with_reducible refine (HJ.out _ _ _ _ _ L2.out L3.out).mono ?_); rintro e w7 ⟨sx, Ax, nx, cx, rfl, hb7⟩; have F4 := Fr.call (by assumption) hb7; (first | (have N1 := Lib.hid (Bk.call N1.out hb7)) | skip); clear hb7)
              refine hK.out _ _ ?_ ?_
              · (try dsimp only)
                ((go_split_ands; refine HALL.out _ ?_; (first | assumption | (repeat (first | assumption | refine Fr.new ?_ _ | refine Fr.drew ?_ | (refine Fr.set ?_ (by first | exact Nat.le_refl _ | omega | (simp; done) | (simp; omega)) (by first | (simp; done) | (simp; omega)) _))); done)))
              clear hK K
              (try simp only [Act.put, List.setIfInBounds_toArray, List.set_cons_zero, List.set_cons_succ])
              refine Tw_takeL (i := 6) (v := ?tv76) rfl (by kernel_rfl) (by decide) (by kernel_rfl) (by kernel_rfl) (fun _ _ _ h => h) (by rfl) ?ty76 ?tn76
              case ty76 => (intro w hSw; (try dsimp only at hSw); go_simp <;> with_reducible rfl)
              (try simp only [Act.put, List.setIfInBounds_toArray, List.set_cons_zero, List.set_cons_succ])
              refine Tw_takeL (i := 7) (v := ?tv77) rfl (by kernel_rfl) (by decide) (by kernel_rfl) (by kernel_rfl) (fun _ _ _ h => h) (by rfl) ?ty77 ?tn77
              case ty77 => (intro w hSw; (try dsimp only at hSw); go_simp <;> with_reducible rfl)
              (try simp only [Act.put, List.setIfInBounds_toArray, List.set_cons_zero, List.set_cons_succ])
              refine Tw_takeL (i := 8) (v := ?tv78) rfl (by kernel_rfl) (by decide) (by kernel_rfl) (by kernel_rfl) (fun _ _ _ h => h) (by rfl) ?ty78 ?tn78
              case ty78 => (intro w hSw; (try dsimp only at hSw); go_simp <;> with_reducible rfl)
              (try simp only [Act.put, List.setIfInBounds_toArray, List.set_cons_zero, List.set_cons_succ])
              refine Tw_all (rs := [10]) (by kernel_rfl) (by simp) (by decide) (fun hHeld => ?_)
              refine AllT.consL rfl (fun K hK => ?_) (AllT.nil)
              · have c0 := N1.out.cell 0
                have c1 := N1.out.cell 1
                have f0 := N1.out.frozen 0
                have f1 := N1.out.frozen 1
                have zN := N1.out.lt
                go_simp
                refine hK.out _ _ ?_ ?_
                · exact HALL.out _ ((hHeld.1.set (p := ⟨_, 0, none⟩) zg.out (fun b hb => by simp at hb) _).set (p := ⟨_, 1, none⟩) zg.out (fun b hb => by simp at hb) _)
                clear hK K c0 f0 c1 f1 zN
                have N1 := Lib.hid (Bk.set2 N1.out (.string sx) (.slice Ax nx cx))
                (try simp only [Act.put, List.setIfInBounds_toArray, List.set_cons_zero, List.set_cons_succ])
                refine Tw_end (by kernel_rfl) (fun hh => ?_)
                obtain ⟨F11, _⟩ := hh
                clear HALL
                go_wp2_with fail
                go_meet
                exact ⟨_, sx, Ax, nx, cx, rfl, rfl, F11.more N1.out⟩
        · go_simp
          refine hK.out _ _ ?_ ?_
          · (try dsimp only)
            ((go_split_ands; refine HALL.out _ ?_; (first | assumption | (repeat (first | assumption | refine Fr.new ?_ _ | refine Fr.drew ?_ | (refine Fr.set ?_ (by first | exact Nat.le_refl _ | omega | (simp; done) | (simp; omega)) (by first | (simp; done) | (simp; omega)) _))); done)))
          clear hK K
          (try simp only [Act.put, List.setIfInBounds_toArray, List.set_cons_zero, List.set_cons_succ])
          refine Tw_abs ?_
          intro wA76 hA76
          (first | (have N1 := Lib.hid (Bk.of_alloc hA76)) | (have N1 := Lib.hid (Bk.of_alloc_drew hA76)))
          have zg := Lib.hid (show wq.heap.size ≤ _ from hHeld.1.size)
          (first | (have L2 := Lib.hid (Lies.alloc hA76 L2.out)) | (have L2 := Lib.hid (Lies.alloc_drew hA76 L2.out)) | skip)
          (first | (have L3 := Lib.hid (Lies.alloc hA76 L3.out)) | (have L3 := Lib.hid (Lies.alloc_drew hA76 L3.out)) | skip)
          clear hA76
          refine Tw_all (rs := [4]) (by kernel_rfl) (by simp) (by decide) (fun hHeld => ?_)
          refine AllT.consL rfl (fun K hK => ?_) (AllT.nil)
          · go_simp
            (go_at_call 13; go_split_ands; (with_reducible refine (Copy_any s2 ps2 ⟨A2, c2⟩ (by omega) HG2.out _ (Fr.lies HAC2.out (by assumption))).mono ?_); rintro e w7 ⟨g3, rfl, hl3, hk3, hb7⟩; have L3 := Lib.hid hl3; have F4 := Fr.call (by assumption) hb7; (first | (have N1 := Lib.hid (Bk.call N1.out hb7)) | skip); (first | (have L2 := Lib.hid (Lies.call L2.out hb7)) | skip); clear hb7 hl3 hk3)
            refine hK.out _ _ ?_ ?_
            · (try dsimp only)
              ((go_split_ands; refine HALL.out _ ?_; (first | assumption | (repeat (first | assumption | refine Fr.new ?_ _ | refine Fr.drew ?_ | (refine Fr.set ?_ (by first | exact Nat.le_refl _ | omega | (simp; done) | (simp; omega)) (by first | (simp; done) | (simp; omega)) _))); done)))
            clear hK K
            (try simp only [Act.put, List.setIfInBounds_toArray, List.set_cons_zero, List.set_cons_succ])
            refine Tw_all (rs := [5]) (by kernel_rfl) (by simp) (by decide) (fun hHeld => ?_)
            refine AllT.consL rfl (fun K hK => ?_) (AllT.nil)
            · go_simp
              (go_at_call 20; go_split_ands; (with_reducible refine (HJ.out _ _ _ _ _ L2.out L3.out).mono ?_); rintro e w7 ⟨sx, Ax, nx, cx, rfl, hb7⟩; have F4 := Fr.call (by assumption) hb7; (first | (have N1 := Lib.hid (Bk.call N1.out hb7)) | skip); clear hb7)
              refine hK.out _ _ ?_ ?_
              · (try dsimp only)
                ((go_split_ands; refine HALL.out _ ?_; (first | assumption | (repeat (first | assumption | refine Fr.new ?_ _ | refine Fr.drew ?_ | (refine Fr.set ?_ (by first | exact Nat.le_refl _ | omega | (simp; done) | (simp; omega)) (by first | (simp; done) | (simp; omega)) _))); done)))
              clear hK K
              (try simp only [Act.put, List.setIfInBounds_toArray, List.set_cons_zero, List.set_cons_succ])
              refine Tw_takeL (i := 6) (v := ?tv79) rfl (by kernel_rfl) (by decide) (by kernel_rfl) (by kernel_rfl) (fun _ _ _ h => h) (by rfl) ?ty79 ?tn79
              case ty79 => (intro w hSw; (try dsimp only at hSw); go_simp <;> with_reducible rfl)
              (try simp only [Act.put, List.setIfInBounds_toArray, List.set_cons_zero, List.set_cons_succ])
              refine Tw_takeL (i := 7) (v := ?tv80) rfl (by kernel_rfl) (by decide) (by kernel_rfl) (by kernel_rfl) (fun _ _ _ h => h) (by rfl) ?ty80 ?tn80
              case ty80 => (intro w hSw; (try dsimp only at hSw); go_simp <;> with_reducible rfl)
              (try simp only [Act.put, List.setIfInBounds_toArray, List.set_cons_zero, List.set_cons_succ])
              refine Tw_takeL (i := 8) (v := ?tv81) rfl (by kernel_rfl) (by decide) (by kernel_rfl) (by kernel_rfl) (fun _ _ _ h => h) (by rfl) ?ty81 ?tn81
              case ty81 => (intro w hSw; (try dsimp only at hSw); go_simp <;> with_reducible rfl)
              (try simp only [Act.put, List.setIfInBounds_toArray, List.set_cons_zero, List.set_cons_succ])
              refine Tw_all (rs := [10]) (by kernel_rfl) (by simp) (by decide) (fun hHeld => ?_)
              refine AllT.consL rfl (fun K hK => ?_) (AllT.nil)
              · have c0 := N1.out.cell 0
                have c1 := N1.out.cell 1
                have f0 := N1.out.frozen 0
                have f1 := N1.out.frozen 1
                have zN := N1.out.lt
                go_simp
                refine hK.out _ _ ?_ ?_
                · exact HALL.out _ ((hHeld.1.set (p := ⟨_, 0, none⟩) zg.out (fun b hb => by simp at hb) _).set (p := ⟨_, 1, none⟩) zg.out (fun b hb => by simp at hb) _)
                clear hK K c0 f0 c1 f1 zN
                have N1 := Lib.hid (Bk.set2 N1.out (.string sx) (.slice Ax nx cx))
                (try simp only [Act.put, List.setIfInBounds_toArray, List.set_cons_zero, List.set_cons_succ])
                refine Tw_end (by kernel_rfl) (fun hh => ?_)
                obtain ⟨F11, _⟩ := hh
                clear HALL
                go_wp2_with fail
                go_meet
                exact ⟨_, sx, Ax, nx, cx, rfl, rfl, F11.more N1.out⟩
      · go_simp
        refine hK.out _ _ ?_ ?_
        · (try dsimp only)
          ((go_split_ands; refine HALL.out _ ?_; (first | assumption | (repeat (first | assumption | refine Fr.new ?_ _ | refine Fr.drew ?_ | (refine Fr.set ?_ (by first | exact Nat.le_refl _ | omega | (simp; done) | (simp; omega)) (by first | (simp; done) | (simp; omega)) _))); done)))
        clear hK K
        (try simp only [Act.put, List.setIfInBounds_toArray, List.set_cons_zero, List.set_cons_succ])
        refine Tw_abs ?_
        intro wA80 hA80
        (first | (have N1 := Lib.hid (Bk.of_alloc hA80)) | (have N1 := Lib.hid (Bk.of_alloc_drew hA80)))
        have zg := Lib.hid (show wq.heap.size ≤ _ from hHeld.1.size)
        (first | (have L2 := Lib.hid (Lies.alloc hA80 L2.out)) | (have L2 := Lib.hid (Lies.alloc_drew hA80 L2.out)) | skip)
        (first | (have L3 := Lib.hid (Lies.alloc hA80 L3.out)) | (have L3 := Lib.hid (Lies.alloc_drew hA80 L3.out)) | skip)
        clear hA80
        refine Tw_all (rs := [1]) (by kernel_rfl) (by simp) (by decide) (fun hHeld => ?_)
        refine AllT.consL rfl (fun K hK => ?_) (AllT.nil)
        · go_simp
          (go_at_call 13; go_split_ands; (with_reducible refine (Copy_any s ps ⟨(some a), c⟩ (by omega) HG.out _ (Fr.lies HAC.out (by assumption))).mono ?_); rintro e w7 ⟨g2, rfl, hl2, hk2, hb7⟩; have L2 := Lib.hid hl2; have F4 := Fr.call (by assumption) hb7; (first | (have N1 := Lib.hid (Bk.call N1.out hb7)) | skip); (first | (have L3 := Lib.hid (Lies.call L3.out hb7)) | skip); clear hb7 hl2 hk2)
          refine hK.out _ _ ?_ ?_
          · (try dsimp only)
            ((go_split_ands; refine HALL.out _ ?_; (first | assumption | (repeat (first | assumption | refine Fr.new ?_ _ | refine Fr.drew ?_ | (refine Fr.set ?_ (by first | exact Nat.le_refl _ | omega | (simp; done) | (simp; omega)) (by first | (simp; done) | (simp; omega)) _))); done)))
          clear hK K
          (try simp only [Act.put, List.setIfInBounds_toArray, List.set_cons_zero, List.set_cons_succ])
          refine Tw_all (rs := [4]) (by kernel_rfl) (by simp) (by decide) (fun hHeld => ?_)
          refine AllT.consL rfl (fun K hK => ?_) (AllT.nil)
          · go_simp
            (go_at_call 13; go_split_ands; (with_reducible refine (Copy_any s2 ps2 ⟨A2, c2⟩ (by omega) HG2.out _ (Fr.lies HAC2.out (by assumption))).mono ?_); rintro e w7 ⟨g3, rfl, hl3, hk3, hb7⟩; have L3 := Lib.hid hl3; have F4 := Fr.call (by assumption) hb7; (first | (have N1 := Lib.hid (Bk.call N1.out hb7)) | skip); (first | (have L2 := Lib.hid (Lies.call L2.out hb7)) | skip); clear hb7 hl3 hk3)
            refine hK.out _ _ ?_ ?_
            · (try dsimp only)
              ((go_split_ands; refine HALL.out _ ?_; (first | assumption | (repeat (first | assumption | refine Fr.new ?_ _ | refine Fr.drew ?_ | (refine Fr.set ?_ (by first | exact Nat.le_refl _ | omega | (simp; done) | (simp; omega)) (by first | (simp; done) | (simp; omega)) _))); done)))
            clear hK K
            (try simp only [Act.put, List.setIfInBounds_toArray, List.set_cons_zero, List.set_cons_succ])
            refine Tw_all (rs := [5]) (by kernel_rfl) (by simp) (by decide) (fun hHeld => ?_)
            refine AllT.consL rfl (fun K hK => ?_) (AllT.nil)
            · go_simp
              (go_at_call 20; go_split_ands; (with_reducible refine (HJ.out _ _ _ _ _ L2.out L3.out).mono ?_); rintro e w7 ⟨sx, Ax, nx, cx, rfl, hb7⟩; have F4 := Fr.call (by assumption) hb7; (first | (have N1 := Lib.hid (Bk.call N1.out hb7)) | skip); clear hb7)
              refine hK.out _ _ ?_ ?_
              · (try dsimp only)
                ((go_split_ands; refine HALL.out _ ?_; (first | assumption | (repeat (first | assumption | refine Fr.new ?_ _ | refine Fr.drew ?_ | (refine Fr.set ?_ (by first | exact Nat.le_refl _ | omega | (simp; done) | (simp; omega)) (by first | (simp; done) | (simp; omega)) _))); done)))
              clear hK K
              (try simp only [Act.put, List.setIfInBounds_toArray, List.set_cons_zero, List.set_cons_succ])
              refine Tw_takeL (i := 6) (v := ?tv82) rfl (by kernel_rfl) (by decide) (by kernel_rfl) (by kernel_rfl) (fun _ _ _ h => h) (by rfl) ?ty82 ?tn82
              case ty82 => (intro w hSw; (try dsimp only at hSw); go_simp <;> with_reducible rfl)
              (try simp only [Act.put, List.setIfInBounds_toArray, List.set_cons_zero, List.set_cons_succ])
              refine Tw_takeL (i := 7) (v := ?tv83) rfl (by kernel_rfl) (by decide) (by kernel_rfl) (by kernel_rfl) (fun _ _ _ h => h) (by rfl) ?ty83 ?tn83
              case ty83 => (intro w hSw; (try dsimp only at hSw); go_simp <;> with_reducible rfl)
              (try simp only [Act.put, List.setIfInBounds_toArray, List.set_cons_zero, List.set_cons_succ])
              refine Tw_takeL (i := 8) (v := ?tv84) rfl (by kernel_rfl) (by decide) (by kernel_rfl) (by kernel_rfl) (fun _ _ _ h => h) (by rfl) ?ty84 ?tn84
              case ty84 => (intro w hSw; (try dsimp only at hSw); go_simp <;> with_reducible rfl)
              (try simp only [Act.put, List.setIfInBounds_toArray, List.set_cons_zero, List.set_cons_succ])
              refine Tw_all (rs := [10]) (by kernel_rfl) (by simp) (by decide) (fun hHeld => ?_)
              refine AllT.consL rfl (fun K hK => ?_) (AllT.nil)
              · have c0 := N1.out.cell 0
                have c1 := N1.out.cell 1
                have f0 := N1.out.frozen 0
                have f1 := N1.out.frozen 1
                have zN := N1.out.lt
                go_simp
                refine hK.out _ _ ?_ ?_
                · exact HALL.out _ ((hHeld.1.set (p := ⟨_, 0, none⟩) zg.out (fun b hb => by simp at hb) _).set (p := ⟨_, 1, none⟩) zg.out (fun b hb => by simp at hb) _)
                clear hK K c0 f0 c1 f1 zN
                have N1 := Lib.hid (Bk.set2 N1.out (.string sx) (.slice Ax nx cx))
                (try simp only [Act.put, List.setIfInBounds_toArray, List.set_cons_zero, List.set_cons_succ])
                refine Tw_end (by kernel_rfl) (fun hh => ?_)
                obtain ⟨F11, _⟩ := hh
                clear HALL
                go_wp2_with fail
                go_meet
                exact ⟨_, sx, Ax, nx, cx, rfl, rfl, F11.more N1.out⟩
    case rest =>
      obtain ⟨wb6, rfl⟩ : ∃ W, W = wc := ⟨_, rfl⟩
      obtain ⟨gj, sx, Ax, nx, cx, rfl, rfl, hx⟩ := hcut
      have FB6 := Lib.hid (FQ.out.call hx.bl)
      have HX6 := Lib.hid hx
      clear hx FQ
      obtain ⟨k0_0, k0_1, kf0, kg0⟩ := (FB6.out.get 4 rfl).two
      have kz0 := (FB6.out.get 4 rfl).lt
      obtain ⟨k1_0, k1_1, k1_2⟩ := (FB6.out.get 3 rfl).three
      have kz1 := (FB6.out.get 3 rfl).lt
      obtain ⟨k2_0, k2_1, k2_2, k2_3⟩ := (FB6.out.get 2 rfl).four
      have kz2 := (FB6.out.get 2 rfl).lt
      obtain ⟨k3_0, k3_1, kf3, kg3⟩ := (FB6.out.get 1 rfl).two
      have kz3 := (FB6.out.get 1 rfl).lt
      obtain ⟨k4_0, k4_1, kf4, kg4⟩ := (FB6.out.get 0 rfl).two
      have kz4 := (FB6.out.get 0 rfl).lt
      go_wp2_with fail
      go_ret
      first | exact ⟨rfl, FB6.out.bl⟩ | exact ⟨rfl, (FB6.out.new _).bl⟩

set_option maxHeartbeats 3200000 in
set_option maxRecDepth 100000 in
theorem ws_jbad (s : ByteArray) (hs : s.size ≤ maxLen) (ps : List Bp) (A : Option Addr) (c : Nat) (hg : HdOk ⟨A, c⟩) (hl : ps.length ≤ maxLen) (b : Bs) (s2 : ByteArray) (hs2 : s2.size ≤ maxLen) (ps2 : List Bp) (A2 : Option Addr) (c2 : Nat) (hg2 : HdOk ⟨A2, c2⟩) (hl2 : ps2.length ≤ maxLen) (p : Nat) (sq : Int) (hsh : shortB s ps = true) (hsh2 : shortB s2 ps2 = true) (h0 : bothE s ps b = 0) (h1 : stateE ps (p : Int) sq = 0) (lo hi : Int) (hsa : (∀ (A' : Option Addr) (c' : Nat) (W : World), Lies W W.heap.size A' (ps.flatMap pc) → Calls Try.prog 18 #[.agg #[.string s, .slice A' ps.length c'], .agg #[.int .i64 b.brk, .int .i64 b.drag, .int .i64 b.drv], .agg #[.int .i64 (p : Int), .int .i64 sq]] W fun e w' => e = .returned (.tuple #[.agg #[.int .i64 lo, .int .i64 hi], .int .i64 0]) ∧ Below W.heap.size W w')) (hrs : (∀ (A' : Option Addr) (c' : Nat) (W : World), Lies W W.heap.size A' (ps.flatMap pc) → Calls Try.prog 19 #[.agg #[.string s, .slice A' ps.length c'], .agg #[.int .i64 b.brk, .int .i64 b.drag, .int .i64 b.drv], .agg #[.int .i64 (p : Int), .int .i64 sq]] W fun e w' => e = .returned (.tuple #[.agg #[.int .i64 lo, .int .i64 hi], .bool true]) ∧ Below W.heap.size W w')) (hj0 : joiE s ps s2 ps2 ≠ 0) (w : World) (hA : Lies w w.heap.size A (ps.flatMap pc)) (hA2 : Lies w w.heap.size A2 (ps2.flatMap pc)) : Calls Try.prog 4 #[.agg #[.string s, .slice A ps.length c], .agg #[.int .i64 b.brk, .int .i64 b.drag, .int .i64 b.drv], .agg #[.int .i64 (p : Int), .int .i64 sq, .string s2, .slice A2 ps2.length c2]] w fun e w' => e = .returned (.bool true) ∧ Below w.heap.size w w' := by
  obtain ⟨je, hje⟩ : ∃ je, joiE s ps s2 ps2 = je := ⟨_, rfl⟩
  have HJ : Hid (∀ (A' : Option Addr) (c' : Nat) (A'' : Option Addr) (c'' : Nat) (W : World), Lies W W.heap.size A' (ps.flatMap pc) → Lies W W.heap.size A'' (ps2.flatMap pc) → Calls Try.prog 20 #[.agg #[.string s, .slice A' ps.length c'], .agg #[.string s2, .slice A'' ps2.length c'']] W fun e w' => ∃ (sx : ByteArray) (Ax : Option Addr) (nx cx : Nat), e = .returned (.tuple #[.agg #[.string sx, .slice Ax nx cx], .int .i64 je]) ∧ Below W.heap.size W w') := Lib.hid (fun A' c' A'' c'' W h h2 => by have := joined_gen s hs ps A' c' (by have := (short_iff.1 hsh).2; omega) s2 hs2 ps2 A'' c'' (by have := (short_iff.1 hsh2).2; omega) W h h2; rw [hje] at this; exact this)
  obtain ⟨hok, hb⟩ := bothE_zero h0
  obtain ⟨p2, hp2, _, hq0, hq1⟩ := stateE_ok h1
  clear hp2
  have hsb : sE b = 0 := sE_of hb
  obtain ⟨a, rfl⟩ := ps_some hA hok.n0
  have HSA := Lib.hid hsa
  have HRS := Lib.hid hrs
  have F0 := Lib.hid (Fr.b3 w 24 #[.string s, .slice (some a) ps.length c] 26 #[.int .i64 b.brk, .int .i64 b.drag, .int .i64 b.drv] 53 #[.int .i64 (p : Int), .int .i64 sq, .string s2, .slice A2 ps2.length c2])
  have HA := Lib.hid hA
  have HG := Lib.hid hg
  have HA2 := Lib.hid hA2
  have HG2 := Lib.hid hg2
  clear hA hg hA2 hg2
  have HSH := Lib.hid hsh
  have HSH2 := Lib.hid hsh2
  have hl14 : ps.length ≤ 14 := (short_iff.1 hsh).2
  have hl142 : ps2.length ≤ 14 := (short_iff.1 hsh2).2
  clear hsh hsh2
  have H0 := Lib.hid h0
  have H1 := Lib.hid h1
  have gj : (je != 0) = true := by rw [← hje]; simp [hj0]
  have gj2 : ¬ je = 0 := by rw [← hje]; exact hj0
  clear hok hb hsb hq0 hq1 hsa hrs h0 h1 hje hj0
  go_enter Try.func4, Try.ntmps4
  go_wp2_with fail
  refine (awake_any _).mono ?_
  rintro e w1 ⟨rfl, hb1⟩
  have G1 := Fr.call F0.out hb1
  obtain ⟨k0_0, k0_1, kf0, kg0⟩ := (G1.get 2 rfl).two
  have kz0 := (G1.get 2 rfl).lt
  obtain ⟨k1_0, k1_1, k1_2⟩ := (G1.get 1 rfl).three
  have kz1 := (G1.get 1 rfl).lt
  obtain ⟨k2_0, k2_1, k2_2, k2_3⟩ := (G1.get 0 rfl).four
  have kz2 := (G1.get 0 rfl).lt
  have F1 : Hid (Fr w _ [(w.heap.size + 1 + 1, 53, #[.int .i64 (p : Int), .int .i64 sq, .string s2, .slice A2 ps2.length c2]), (w.heap.size + 1, 26, #[.int .i64 b.brk, .int .i64 b.drag, .int .i64 b.drv]), (w.heap.size, 24, #[.string s, .slice (some a) ps.length c])]) := Lib.hid G1
  clear hb1 G1 F0
  go_wp2_with fail
  refine (Short_any s hs ps (some a) c hl _).mono ?_
  rintro e w2 ⟨rfl, hb2⟩
  rw [HSH.out]
  clear k0_0 k0_1 kf0 kg0 kz0 k1_0 k1_1 k1_2 kz1 k2_0 k2_1 k2_2 k2_3 kz2
  have G2 := Fr.call F1.out hb2
  obtain ⟨k0_0, k0_1, kf0, kg0⟩ := (G2.get 2 rfl).two
  have kz0 := (G2.get 2 rfl).lt
  obtain ⟨k1_0, k1_1, k1_2⟩ := (G2.get 1 rfl).three
  have kz1 := (G2.get 1 rfl).lt
  obtain ⟨k2_0, k2_1, k2_2, k2_3⟩ := (G2.get 0 rfl).four
  have kz2 := (G2.get 0 rfl).lt
  have F2 : Hid (Fr w _ [(w.heap.size + 1 + 1, 53, #[.int .i64 (p : Int), .int .i64 sq, .string s2, .slice A2 ps2.length c2]), (w.heap.size + 1, 26, #[.int .i64 b.brk, .int .i64 b.drag, .int .i64 b.drv]), (w.heap.size, 24, #[.string s, .slice (some a) ps.length c])]) := Lib.hid G2
  clear hb2 G2 F1
  go_wp2_with fail
  refine (Short_any s2 hs2 ps2 A2 c2 hl2 _).mono ?_
  rintro e w3 ⟨rfl, hb3⟩
  rw [HSH2.out]
  clear k0_0 k0_1 kf0 kg0 kz0 k1_0 k1_1 k1_2 kz1 k2_0 k2_1 k2_2 k2_3 kz2
  have G3 := Fr.call F2.out hb3
  obtain ⟨k0_0, k0_1, kf0, kg0⟩ := (G3.get 2 rfl).two
  have kz0 := (G3.get 2 rfl).lt
  obtain ⟨k1_0, k1_1, k1_2⟩ := (G3.get 1 rfl).three
  have kz1 := (G3.get 1 rfl).lt
  obtain ⟨k2_0, k2_1, k2_2, k2_3⟩ := (G3.get 0 rfl).four
  have kz2 := (G3.get 0 rfl).lt
  have F3 : Hid (Fr w _ [(w.heap.size + 1 + 1, 53, #[.int .i64 (p : Int), .int .i64 sq, .string s2, .slice A2 ps2.length c2]), (w.heap.size + 1, 26, #[.int .i64 b.brk, .int .i64 b.drag, .int .i64 b.drv]), (w.heap.size, 24, #[.string s, .slice (some a) ps.length c])]) := Lib.hid G3
  clear hb3 G3 F2
  go_upto_region 5 with fail
  clear k0_0 k0_1 kf0 kg0 kz0 k1_0 k1_1 k1_2 kz1 k2_0 k2_1 k2_2 k2_3 kz2
  go_cut [7, 8] from 28 to 36 (fun pv ev W => ∃ g : Nat, pv = .pointer (some ⟨g, 0, none⟩) ∧ ev = .int .i64 0 ∧ Fr w3 W [(g, 48, #[.int .i64 lo, .int .i64 hi])])
  case first =>
    refine wp_abs ?_
    intro wnow hnow
    have HALL : Hid (∀ W, Fr w3 W [] → Fr w3 W [] ∧ W.cell? ⟨w.heap.size, 0, none⟩ = some (.string s) ∧ W.cell? ⟨w.heap.size, 1, none⟩ = some (.slice (some a) ps.length c) ∧ W.cell? ⟨w.heap.size + 1, 0, none⟩ = some (.int .i64 b.brk) ∧ W.cell? ⟨w.heap.size + 1, 1, none⟩ = some (.int .i64 b.drag) ∧ W.cell? ⟨w.heap.size + 1, 2, none⟩ = some (.int .i64 b.drv) ∧ W.cell? ⟨w.heap.size + 1 + 1, 0, none⟩ = some (.int .i64 (p : Int)) ∧ W.cell? ⟨w.heap.size + 1 + 1, 1, none⟩ = some (.int .i64 sq) ∧ W.cell? ⟨w.heap.size + 1 + 1, 2, none⟩ = some (.string s2) ∧ W.cell? ⟨w.heap.size + 1 + 1, 3, none⟩ = some (.slice A2 ps2.length c2)) := Lib.hid (fun W hW => ⟨hW, ((F3.out.get 2 rfl).call hW.bl).cell 0, ((F3.out.get 2 rfl).call hW.bl).cell 1, ((F3.out.get 1 rfl).call hW.bl).cell 0, ((F3.out.get 1 rfl).call hW.bl).cell 1, ((F3.out.get 1 rfl).call hW.bl).cell 2, ((F3.out.get 0 rfl).call hW.bl).cell 0, ((F3.out.get 0 rfl).call hW.bl).cell 1, ((F3.out.get 0 rfl).call hW.bl).cell 2, ((F3.out.get 0 rfl).call hW.bl).cell 3⟩)
    have HAC := Lib.hid (Fr.lies HA.out F3.out)
    have F10 : Fr w3 wnow [] := by subst hnow; exact Fr.nil _
    clear hnow
    refine Tw_start 11 (fun W => Fr w3 W [] ∧ W.cell? ⟨w.heap.size, 0, none⟩ = some (.string s) ∧ W.cell? ⟨w.heap.size, 1, none⟩ = some (.slice (some a) ps.length c) ∧ W.cell? ⟨w.heap.size + 1, 0, none⟩ = some (.int .i64 b.brk) ∧ W.cell? ⟨w.heap.size + 1, 1, none⟩ = some (.int .i64 b.drag) ∧ W.cell? ⟨w.heap.size + 1, 2, none⟩ = some (.int .i64 b.drv) ∧ W.cell? ⟨w.heap.size + 1 + 1, 0, none⟩ = some (.int .i64 (p : Int)) ∧ W.cell? ⟨w.heap.size + 1 + 1, 1, none⟩ = some (.int .i64 sq) ∧ W.cell? ⟨w.heap.size + 1 + 1, 2, none⟩ = some (.string s2) ∧ W.cell? ⟨w.heap.size + 1 + 1, 3, none⟩ = some (.slice A2 ps2.length c2)) (by kernel_rfl) (by kernel_rfl) rfl ?_ ?_
    · (try dsimp only)
      ((go_split_ands; refine HALL.out _ ?_; (first | assumption | (repeat (first | assumption | refine Fr.new ?_ _ | refine Fr.drew ?_ | (refine Fr.set ?_ (by first | exact Nat.le_refl _ | omega | (simp; done) | (simp; omega)) (by first | (simp; done) | (simp; omega)) _))); done)))
    refine Tw_takeL (i := 0) (v := ?tv85) rfl (by kernel_rfl) (by decide) (by kernel_rfl) (by kernel_rfl) (fun _ _ _ h => h) (by rfl) ?ty85 ?tn85
    case ty85 => (intro w hSw; (try dsimp only at hSw); go_simp <;> with_reducible rfl)
    (try simp only [Act.put, List.setIfInBounds_toArray, List.set_cons_zero, List.set_cons_succ])
    refine Tw_takeL (i := 2) (v := ?tv86) rfl (by kernel_rfl) (by decide) (by kernel_rfl) (by kernel_rfl) (fun _ _ _ h => h) (by rfl) ?ty86 ?tn86
    case ty86 => (intro w hSw; (try dsimp only at hSw); go_simp <;> with_reducible rfl)
    (try simp only [Act.put, List.setIfInBounds_toArray, List.set_cons_zero, List.set_cons_succ])
    refine Tw_takeL (i := 3) (v := ?tv87) rfl (by kernel_rfl) (by decide) (by kernel_rfl) (by kernel_rfl) (fun _ _ _ h => h) (by rfl) ?ty87 ?tn87
    case ty87 => (intro w hSw; (try dsimp only at hSw); go_simp <;> with_reducible rfl)
    (try simp only [Act.put, List.setIfInBounds_toArray, List.set_cons_zero, List.set_cons_succ])
    refine Tw_takeL (i := 4) (v := ?tv88) rfl (by kernel_rfl) (by decide) (by kernel_rfl) (by kernel_rfl) (fun _ _ _ h => h) (by rfl) ?ty88 ?tn88
    case ty88 => (intro w hSw; (try dsimp only at hSw); go_simp <;> with_reducible rfl)
    (try simp only [Act.put, List.setIfInBounds_toArray, List.set_cons_zero, List.set_cons_succ])
    refine Tw_all (rs := [1, 9]) (by kernel_rfl) (by simp) (by decide) (fun hHeld => ?_)
    refine AllT.consL rfl (fun K hK => ?_) (AllT.consL rfl (fun K hK => ?_) (AllT.nil))
    · go_simp
      (go_at_call 13; go_split_ands; (with_reducible refine (Copy_any s ps ⟨(some a), c⟩ (by omega) HG.out _ (Fr.lies HAC.out (by assumption))).mono ?_); rintro e w7 ⟨g2, rfl, hl2, hk2, hb7⟩; have L2 := Lib.hid hl2; have F4 := Fr.call (by assumption) hb7; (first | (have N1 := Lib.hid (Bk.call N1.out hb7)) | skip); clear hb7 hl2 hk2)
      refine hK.out _ _ ?_ ?_
      · (try dsimp only)
        ((go_split_ands; refine HALL.out _ ?_; (first | assumption | (repeat (first | assumption | refine Fr.new ?_ _ | refine Fr.drew ?_ | (refine Fr.set ?_ (by first | exact Nat.le_refl _ | omega | (simp; done) | (simp; omega)) (by first | (simp; done) | (simp; omega)) _))); done)))
      clear hK K
      (try simp only [Act.put, List.setIfInBounds_toArray, List.set_cons_zero, List.set_cons_succ])
      refine Tw_all (rs := [5, 9]) (by kernel_rfl) (by simp) (by decide) (fun hHeld => ?_)
      refine AllT.consL rfl (fun K hK => ?_) (AllT.consL rfl (fun K hK => ?_) (AllT.nil))
      · go_simp
        (go_at_call 18; go_split_ands; (with_reducible refine (HSA.out _ _ _ L2.out).mono ?_); rintro e w7 ⟨rfl, hb7⟩; skip; have F4 := Fr.call (by assumption) hb7; (first | (have N1 := Lib.hid (Bk.call N1.out hb7)) | skip); clear hb7)
        refine hK.out _ _ ?_ ?_
        · (try dsimp only)
          ((go_split_ands; refine HALL.out _ ?_; (first | assumption | (repeat (first | assumption | refine Fr.new ?_ _ | refine Fr.drew ?_ | (refine Fr.set ?_ (by first | exact Nat.le_refl _ | omega | (simp; done) | (simp; omega)) (by first | (simp; done) | (simp; omega)) _))); done)))
        clear hK K
        (try simp only [Act.put, List.setIfInBounds_toArray, List.set_cons_zero, List.set_cons_succ])
        refine Tw_takeL (i := 6) (v := ?tv89) rfl (by kernel_rfl) (by decide) (by kernel_rfl) (by kernel_rfl) (fun _ _ _ h => h) (by rfl) ?ty89 ?tn89
        case ty89 => (intro w hSw; (try dsimp only at hSw); go_simp <;> with_reducible rfl)
        (try simp only [Act.put, List.setIfInBounds_toArray, List.set_cons_zero, List.set_cons_succ])
        refine Tw_takeL (i := 7) (v := ?tv90) rfl (by kernel_rfl) (by decide) (by kernel_rfl) (by kernel_rfl) (fun _ _ _ h => h) (by rfl) ?ty90 ?tn90
        case ty90 => (intro w hSw; (try dsimp only at hSw); go_simp <;> with_reducible rfl)
        (try simp only [Act.put, List.setIfInBounds_toArray, List.set_cons_zero, List.set_cons_succ])
        refine Tw_takeL (i := 8) (v := ?tv91) rfl (by kernel_rfl) (by decide) (by kernel_rfl) (by kernel_rfl) (fun _ _ _ h => h) (by rfl) ?ty91 ?tn91
        case ty91 => (intro w hSw; (try dsimp only at hSw); go_simp <;> with_reducible rfl)
        (try simp only [Act.put, List.setIfInBounds_toArray, List.set_cons_zero, List.set_cons_succ])
        refine Tw_all (rs := [9]) (by kernel_rfl) (by simp) (by decide) (fun hHeld => ?_)
        refine AllT.consL rfl (fun K hK => ?_) (AllT.nil)
        · go_simp
          refine hK.out _ _ ?_ ?_
          · (try dsimp only)
            ((go_split_ands; refine HALL.out _ ?_; (first | assumption | (repeat (first | assumption | refine Fr.new ?_ _ | refine Fr.drew ?_ | (refine Fr.set ?_ (by first | exact Nat.le_refl _ | omega | (simp; done) | (simp; omega)) (by first | (simp; done) | (simp; omega)) _))); done)))
          clear hK K
          (try simp only [Act.put, List.setIfInBounds_toArray, List.set_cons_zero, List.set_cons_succ])
          refine Tw_abs ?_
          intro wA87 hA87
          (first | (have N1 := Lib.hid (Bk.of_alloc hA87)) | (have N1 := Lib.hid (Bk.of_alloc_drew hA87)))
          have zg := Lib.hid (show w3.heap.size ≤ _ from hHeld.1.size)
          (first | (have L2 := Lib.hid (Lies.alloc hA87 L2.out)) | (have L2 := Lib.hid (Lies.alloc_drew hA87 L2.out)) | skip)
          clear hA87
          refine Tw_all (rs := [10]) (by kernel_rfl) (by simp) (by decide) (fun hHeld => ?_)
          refine AllT.consL rfl (fun K hK => ?_) (AllT.nil)
          · have c0 := N1.out.cell 0
            have c1 := N1.out.cell 1
            have f0 := N1.out.frozen 0
            have f1 := N1.out.frozen 1
            have zN := N1.out.lt
            go_simp
            refine hK.out _ _ ?_ ?_
            · exact HALL.out _ ((hHeld.1.set (p := ⟨_, 0, none⟩) zg.out (fun b hb => by simp at hb) _).set (p := ⟨_, 1, none⟩) zg.out (fun b hb => by simp at hb) _)
            clear hK K c0 f0 c1 f1 zN
            have N1 := Lib.hid (Bk.set2 N1.out (.int .i64 lo) (.int .i64 hi))
            (try simp only [Act.put, List.setIfInBounds_toArray, List.set_cons_zero, List.set_cons_succ])
            refine Tw_end (by kernel_rfl) (fun hh => ?_)
            obtain ⟨F11, _⟩ := hh
            clear HALL
            go_wp2_with fail
            go_meet
            exact ⟨_, rfl, rfl, F11.more N1.out⟩
      · go_simp
        refine hK.out _ _ ?_ ?_
        · (try dsimp only)
          ((go_split_ands; refine HALL.out _ ?_; (first | assumption | (repeat (first | assumption | refine Fr.new ?_ _ | refine Fr.drew ?_ | (refine Fr.set ?_ (by first | exact Nat.le_refl _ | omega | (simp; done) | (simp; omega)) (by first | (simp; done) | (simp; omega)) _))); done)))
        clear hK K
        (try simp only [Act.put, List.setIfInBounds_toArray, List.set_cons_zero, List.set_cons_succ])
        refine Tw_abs ?_
        intro wA89 hA89
        (first | (have N1 := Lib.hid (Bk.of_alloc hA89)) | (have N1 := Lib.hid (Bk.of_alloc_drew hA89)))
        have zg := Lib.hid (show w3.heap.size ≤ _ from hHeld.1.size)
        (first | (have L2 := Lib.hid (Lies.alloc hA89 L2.out)) | (have L2 := Lib.hid (Lies.alloc_drew hA89 L2.out)) | skip)
        clear hA89
        refine Tw_all (rs := [5]) (by kernel_rfl) (by simp) (by decide) (fun hHeld => ?_)
        refine AllT.consL rfl (fun K hK => ?_) (AllT.nil)
        · go_simp
          (go_at_call 18; go_split_ands; (with_reducible refine (HSA.out _ _ _ L2.out).mono ?_); rintro e w7 ⟨rfl, hb7⟩; skip; have F4 := Fr.call (by assumption) hb7; (first | (have N1 := Lib.hid (Bk.call N1.out hb7)) | skip); clear hb7)
          refine hK.out _ _ ?_ ?_
          · (try dsimp only)
            ((go_split_ands; refine HALL.out _ ?_; (first | assumption | (repeat (first | assumption | refine Fr.new ?_ _ | refine Fr.drew ?_ | (refine Fr.set ?_ (by first | exact Nat.le_refl _ | omega | (simp; done) | (simp; omega)) (by first | (simp; done) | (simp; omega)) _))); done)))
          clear hK K
          (try simp only [Act.put, List.setIfInBounds_toArray, List.set_cons_zero, List.set_cons_succ])
          refine Tw_takeL (i := 6) (v := ?tv92) rfl (by kernel_rfl) (by decide) (by kernel_rfl) (by kernel_rfl) (fun _ _ _ h => h) (by rfl) ?ty92 ?tn92
          case ty92 => (intro w hSw; (try dsimp only at hSw); go_simp <;> with_reducible rfl)
          (try simp only [Act.put, List.setIfInBounds_toArray, List.set_cons_zero, List.set_cons_succ])
          refine Tw_takeL (i := 7) (v := ?tv93) rfl (by kernel_rfl) (by decide) (by kernel_rfl) (by kernel_rfl) (fun _ _ _ h => h) (by rfl) ?ty93 ?tn93
          case ty93 => (intro w hSw; (try dsimp only at hSw); go_simp <;> with_reducible rfl)
          (try simp only [Act.put, List.setIfInBounds_toArray, List.set_cons_zero, List.set_cons_succ])
          refine Tw_takeL (i := 8) (v := ?tv94) rfl (by kernel_rfl) (by decide) (by kernel_rfl) (by kernel_rfl) (fun _ _ _ h => h) (by rfl) ?ty94 ?tn94
          case ty94 => (intro w hSw; (try dsimp only at hSw); go_simp <;> with_reducible rfl)
          (try simp only [Act.put, List.setIfInBounds_toArray, List.set_cons_zero, List.set_cons_succ])
          refine Tw_all (rs := [10]) (by kernel_rfl) (by simp) (by decide) (fun hHeld => ?_)
          refine AllT.consL rfl (fun K hK => ?_) (AllT.nil)
          · have c0 := N1.out.cell 0
            have c1 := N1.out.cell 1
            have f0 := N1.out.frozen 0
            have f1 := N1.out.frozen 1
            have zN := N1.out.lt
            go_simp
            refine hK.out _ _ ?_ ?_
            · exact HALL.out _ ((hHeld.1.set (p := ⟨_, 0, none⟩) zg.out (fun b hb => by simp at hb) _).set (p := ⟨_, 1, none⟩) zg.out (fun b hb => by simp at hb) _)
            clear hK K c0 f0 c1 f1 zN
            have N1 := Lib.hid (Bk.set2 N1.out (.int .i64 lo) (.int .i64 hi))
            (try simp only [Act.put, List.setIfInBounds_toArray, List.set_cons_zero, List.set_cons_succ])
            refine Tw_end (by kernel_rfl) (fun hh => ?_)
            obtain ⟨F11, _⟩ := hh
            clear HALL
            go_wp2_with fail
            go_meet
            exact ⟨_, rfl, rfl, F11.more N1.out⟩
    · go_simp
      refine hK.out _ _ ?_ ?_
      · (try dsimp only)
        ((go_split_ands; refine HALL.out _ ?_; (first | assumption | (repeat (first | assumption | refine Fr.new ?_ _ | refine Fr.drew ?_ | (refine Fr.set ?_ (by first | exact Nat.le_refl _ | omega | (simp; done) | (simp; omega)) (by first | (simp; done) | (simp; omega)) _))); done)))
      clear hK K
      (try simp only [Act.put, List.setIfInBounds_toArray, List.set_cons_zero, List.set_cons_succ])
      refine Tw_abs ?_
      intro wA92 hA92
      (first | (have N1 := Lib.hid (Bk.of_alloc hA92)) | (have N1 := Lib.hid (Bk.of_alloc_drew hA92)))
      have zg := Lib.hid (show w3.heap.size ≤ _ from hHeld.1.size)
      (first | (have L2 := Lib.hid (Lies.alloc hA92 L2.out)) | (have L2 := Lib.hid (Lies.alloc_drew hA92 L2.out)) | skip)
      clear hA92
      refine Tw_all (rs := [1]) (by kernel_rfl) (by simp) (by decide) (fun hHeld => ?_)
      refine AllT.consL rfl (fun K hK => ?_) (AllT.nil)
      · go_simp
        (go_at_call 13; go_split_ands; (with_reducible refine (Copy_any s ps ⟨(some a), c⟩ (by omega) HG.out _ (Fr.lies HAC.out (by assumption))).mono ?_); rintro e w7 ⟨g2, rfl, hl2, hk2, hb7⟩; have L2 := Lib.hid hl2; have F4 := Fr.call (by assumption) hb7; (first | (have N1 := Lib.hid (Bk.call N1.out hb7)) | skip); clear hb7 hl2 hk2)
        refine hK.out _ _ ?_ ?_
        · (try dsimp only)
          ((go_split_ands; refine HALL.out _ ?_; (first | assumption | (repeat (first | assumption | refine Fr.new ?_ _ | refine Fr.drew ?_ | (refine Fr.set ?_ (by first | exact Nat.le_refl _ | omega | (simp; done) | (simp; omega)) (by first | (simp; done) | (simp; omega)) _))); done)))
        clear hK K
        (try simp only [Act.put, List.setIfInBounds_toArray, List.set_cons_zero, List.set_cons_succ])
        refine Tw_all (rs := [5]) (by kernel_rfl) (by simp) (by decide) (fun hHeld => ?_)
        refine AllT.consL rfl (fun K hK => ?_) (AllT.nil)
        · go_simp
          (go_at_call 18; go_split_ands; (with_reducible refine (HSA.out _ _ _ L2.out).mono ?_); rintro e w7 ⟨rfl, hb7⟩; skip; have F4 := Fr.call (by assumption) hb7; (first | (have N1 := Lib.hid (Bk.call N1.out hb7)) | skip); clear hb7)
          refine hK.out _ _ ?_ ?_
          · (try dsimp only)
            ((go_split_ands; refine HALL.out _ ?_; (first | assumption | (repeat (first | assumption | refine Fr.new ?_ _ | refine Fr.drew ?_ | (refine Fr.set ?_ (by first | exact Nat.le_refl _ | omega | (simp; done) | (simp; omega)) (by first | (simp; done) | (simp; omega)) _))); done)))
          clear hK K
          (try simp only [Act.put, List.setIfInBounds_toArray, List.set_cons_zero, List.set_cons_succ])
          refine Tw_takeL (i := 6) (v := ?tv95) rfl (by kernel_rfl) (by decide) (by kernel_rfl) (by kernel_rfl) (fun _ _ _ h => h) (by rfl) ?ty95 ?tn95
          case ty95 => (intro w hSw; (try dsimp only at hSw); go_simp <;> with_reducible rfl)
          (try simp only [Act.put, List.setIfInBounds_toArray, List.set_cons_zero, List.set_cons_succ])
          refine Tw_takeL (i := 7) (v := ?tv96) rfl (by kernel_rfl) (by decide) (by kernel_rfl) (by kernel_rfl) (fun _ _ _ h => h) (by rfl) ?ty96 ?tn96
          case ty96 => (intro w hSw; (try dsimp only at hSw); go_simp <;> with_reducible rfl)
          (try simp only [Act.put, List.setIfInBounds_toArray, List.set_cons_zero, List.set_cons_succ])
          refine Tw_takeL (i := 8) (v := ?tv97) rfl (by kernel_rfl) (by decide) (by kernel_rfl) (by kernel_rfl) (fun _ _ _ h => h) (by rfl) ?ty97 ?tn97
          case ty97 => (intro w hSw; (try dsimp only at hSw); go_simp <;> with_reducible rfl)
          (try simp only [Act.put, List.setIfInBounds_toArray, List.set_cons_zero, List.set_cons_succ])
          refine Tw_all (rs := [10]) (by kernel_rfl) (by simp) (by decide) (fun hHeld => ?_)
          refine AllT.consL rfl (fun K hK => ?_) (AllT.nil)
          · have c0 := N1.out.cell 0
            have c1 := N1.out.cell 1
            have f0 := N1.out.frozen 0
            have f1 := N1.out.frozen 1
            have zN := N1.out.lt
            go_simp
            refine hK.out _ _ ?_ ?_
            · exact HALL.out _ ((hHeld.1.set (p := ⟨_, 0, none⟩) zg.out (fun b hb => by simp at hb) _).set (p := ⟨_, 1, none⟩) zg.out (fun b hb => by simp at hb) _)
            clear hK K c0 f0 c1 f1 zN
            have N1 := Lib.hid (Bk.set2 N1.out (.int .i64 lo) (.int .i64 hi))
            (try simp only [Act.put, List.setIfInBounds_toArray, List.set_cons_zero, List.set_cons_succ])
            refine Tw_end (by kernel_rfl) (fun hh => ?_)
            obtain ⟨F11, _⟩ := hh
            clear HALL
            go_wp2_with fail
            go_meet
            exact ⟨_, rfl, rfl, F11.more N1.out⟩
  case rest =>
    obtain ⟨wb7, rfl⟩ : ∃ W, W = wc := ⟨_, rfl⟩
    obtain ⟨gr, rfl, rfl, hx⟩ := hcut
    have FB7 := Lib.hid (F3.out.call hx.bl)
    have HX7 := Lib.hid hx
    clear hx F3
    obtain ⟨k0_0, k0_1, kf0, kg0⟩ := (FB7.out.get 2 rfl).two
    have kz0 := (FB7.out.get 2 rfl).lt
    obtain ⟨k1_0, k1_1, k1_2⟩ := (FB7.out.get 1 rfl).three
    have kz1 := (FB7.out.get 1 rfl).lt
    obtain ⟨k2_0, k2_1, k2_2, k2_3⟩ := (FB7.out.get 0 rfl).four
    have kz2 := (FB7.out.get 0 rfl).lt
    have FR := Lib.hid (FB7.out.more HX7.out.top)
    clear FB7 HX7
    obtain ⟨k3_0, k3_1, kf3, kg3⟩ := (FR.out.get 0 rfl).two
    have kz3 := (FR.out.get 0 rfl).lt
    go_wp2_with fail
    refine (BothErr_any s hs ps (some a) c hl b _ (Fr.lies HA.out FR.out)).mono ?_
    rintro e w4 ⟨rfl, hb4⟩
    rw [H0.out]
    clear k0_0 k0_1 kf0 kg0 kz0 k1_0 k1_1 k1_2 kz1 k2_0 k2_1 k2_2 k2_3 kz2 k3_0 k3_1 kf3 kg3 kz3
    have G4 := Fr.call FR.out hb4
    obtain ⟨k0_0, k0_1, kf0, kg0⟩ := (G4.get 3 rfl).two
    have kz0 := (G4.get 3 rfl).lt
    obtain ⟨k1_0, k1_1, k1_2⟩ := (G4.get 2 rfl).three
    have kz1 := (G4.get 2 rfl).lt
    obtain ⟨k2_0, k2_1, k2_2, k2_3⟩ := (G4.get 1 rfl).four
    have kz2 := (G4.get 1 rfl).lt
    obtain ⟨k3_0, k3_1, kf3, kg3⟩ := (G4.get 0 rfl).two
    have kz3 := (G4.get 0 rfl).lt
    have F4 : Hid (Fr w _ [(gr, 48, #[.int .i64 lo, .int .i64 hi]), (w.heap.size + 1 + 1, 53, #[.int .i64 (p : Int), .int .i64 sq, .string s2, .slice A2 ps2.length c2]), (w.heap.size + 1, 26, #[.int .i64 b.brk, .int .i64 b.drag, .int .i64 b.drv]), (w.heap.size, 24, #[.string s, .slice (some a) ps.length c])]) := Lib.hid G4
    clear hb4 G4 FR
    go_wp2_with fail
    refine (StateErr_any s ps (some a) c (by omega) (p : Int) sq _).mono ?_
    rintro e w5 ⟨rfl, hb5⟩
    rw [H1.out]
    clear k0_0 k0_1 kf0 kg0 kz0 k1_0 k1_1 k1_2 kz1 k2_0 k2_1 k2_2 k2_3 kz2 k3_0 k3_1 kf3 kg3 kz3
    have G5 := Fr.call F4.out hb5
    obtain ⟨k0_0, k0_1, kf0, kg0⟩ := (G5.get 3 rfl).two
    have kz0 := (G5.get 3 rfl).lt
    obtain ⟨k1_0, k1_1, k1_2⟩ := (G5.get 2 rfl).three
    have kz1 := (G5.get 2 rfl).lt
    obtain ⟨k2_0, k2_1, k2_2, k2_3⟩ := (G5.get 1 rfl).four
    have kz2 := (G5.get 1 rfl).lt
    obtain ⟨k3_0, k3_1, kf3, kg3⟩ := (G5.get 0 rfl).two
    have kz3 := (G5.get 0 rfl).lt
    have F5 : Hid (Fr w _ [(gr, 48, #[.int .i64 lo, .int .i64 hi]), (w.heap.size + 1 + 1, 53, #[.int .i64 (p : Int), .int .i64 sq, .string s2, .slice A2 ps2.length c2]), (w.heap.size + 1, 26, #[.int .i64 b.brk, .int .i64 b.drag, .int .i64 b.drv]), (w.heap.size, 24, #[.string s, .slice (some a) ps.length c])]) := Lib.hid G5
    clear hb5 G5 F4
    have HWN : Hid (∀ b' ∈ ([(gr, 48, #[.int .i64 lo, .int .i64 hi]), (w.heap.size + 1 + 1, 53, #[.int .i64 (p : Int), .int .i64 sq, .string s2, .slice A2 ps2.length c2]), (w.heap.size + 1, 26, #[.int .i64 b.brk, .int .i64 b.drag, .int .i64 b.drv]), (w.heap.size, 24, #[.string s, .slice (some a) ps.length c])] : List (Nat × TypeId × Array Value)), b'.1 ≠ w5.heap.size) := Lib.hid (fun b' hb' => by have := (F5.out.bk b' hb').lt; omega)
    have HWZ : Hid (w.heap.size ≤ w5.heap.size) := Lib.hid F5.out.bl.size
    have FW := Lib.hid (Fr.box F5.out 48 #[.int .i64 0, .int .i64 0])
    clear F5
    go_wp2_with fail
    refine (HRS.out _ _ _ (Fr.lies HA.out FW.out)).mono ?_
    rintro e w6 ⟨rfl, hb6⟩
    clear k0_0 k0_1 kf0 kg0 kz0 k1_0 k1_1 k1_2 kz1 k2_0 k2_1 k2_2 k2_3 kz2 k3_0 k3_1 kf3 kg3 kz3
    have G6 := Fr.call FW.out hb6
    obtain ⟨k0_0, k0_1, kf0, kg0⟩ := (G6.get 4 rfl).two
    have kz0 := (G6.get 4 rfl).lt
    obtain ⟨k1_0, k1_1, k1_2⟩ := (G6.get 3 rfl).three
    have kz1 := (G6.get 3 rfl).lt
    obtain ⟨k2_0, k2_1, k2_2, k2_3⟩ := (G6.get 2 rfl).four
    have kz2 := (G6.get 2 rfl).lt
    obtain ⟨k3_0, k3_1, kf3, kg3⟩ := (G6.get 1 rfl).two
    have kz3 := (G6.get 1 rfl).lt
    obtain ⟨k4_0, k4_1, kf4, kg4⟩ := (G6.get 0 rfl).two
    have kz4 := (G6.get 0 rfl).lt
    have F6 : Hid (Fr w _ [(w5.heap.size, 48, #[.int .i64 0, .int .i64 0]), (gr, 48, #[.int .i64 lo, .int .i64 hi]), (w.heap.size + 1 + 1, 53, #[.int .i64 (p : Int), .int .i64 sq, .string s2, .slice A2 ps2.length c2]), (w.heap.size + 1, 26, #[.int .i64 b.brk, .int .i64 b.drag, .int .i64 b.drv]), (w.heap.size, 24, #[.string s, .slice (some a) ps.length c])]) := Lib.hid G6
    clear hb6 G6 FW
    have zw := (F6.out.get 0 rfl).lt
    go_upto_region 13 with fail
    refine wp_abs ?_
    intro wq hq
    have FQ : Hid (Fr w wq [(w5.heap.size, 48, #[.int .i64 lo, .int .i64 hi]), (gr, 48, #[.int .i64 lo, .int .i64 hi]), (w.heap.size + 1 + 1, 53, #[.int .i64 (p : Int), .int .i64 sq, .string s2, .slice A2 ps2.length c2]), (w.heap.size + 1, 26, #[.int .i64 b.brk, .int .i64 b.drag, .int .i64 b.drv]), (w.heap.size, 24, #[.string s, .slice (some a) ps.length c])]) := Lib.hid (by
      subst hq
      have h := (F6.out.put2a HWZ.out HWN.out (.int .i64 lo) (.int .i64 hi)).new (.cells #[.int .i64 lo, .int .i64 hi] 48)
      exact h)
    clear hq zw F6 k0_0 k0_1 kf0 kg0 kz0 k1_0 k1_1 k1_2 kz1 k2_0 k2_1 k2_2 k2_3 kz2 k3_0 k3_1 kf3 kg3 kz3 k4_0 k4_1 kf4 kg4 kz4
    obtain ⟨k0_0, k0_1, kf0, kg0⟩ := (FQ.out.get 4 rfl).two
    have kz0 := (FQ.out.get 4 rfl).lt
    obtain ⟨k1_0, k1_1, k1_2⟩ := (FQ.out.get 3 rfl).three
    have kz1 := (FQ.out.get 3 rfl).lt
    obtain ⟨k2_0, k2_1, k2_2, k2_3⟩ := (FQ.out.get 2 rfl).four
    have kz2 := (FQ.out.get 2 rfl).lt
    obtain ⟨k3_0, k3_1, kf3, kg3⟩ := (FQ.out.get 1 rfl).two
    have kz3 := (FQ.out.get 1 rfl).lt
    obtain ⟨k4_0, k4_1, kf4, kg4⟩ := (FQ.out.get 0 rfl).two
    have kz4 := (FQ.out.get 0 rfl).lt
    go_upto_region 17 with fail
    clear k0_0 k0_1 kf0 kg0 kz0 k1_0 k1_1 k1_2 kz1 k2_0 k2_1 k2_2 k2_3 kz2 k3_0 k3_1 kf3 kg3 kz3 k4_0 k4_1 kf4 kg4 kz4
    go_cut [13, 14] from 67 to 75 (fun jv fv W => ∃ (g : Nat) (sx : ByteArray) (Ax : Option Addr) (nx cx : Nat), jv = .pointer (some ⟨g, 0, none⟩) ∧ fv = .int .i64 je ∧ Fr wq W [(g, 24, #[.string sx, .slice Ax nx cx])])
    case first =>
      refine wp_abs ?_
      intro wnow hnow
      have HALL : Hid (∀ W, Fr wq W [] → Fr wq W [] ∧ W.cell? ⟨w.heap.size, 0, none⟩ = some (.string s) ∧ W.cell? ⟨w.heap.size, 1, none⟩ = some (.slice (some a) ps.length c) ∧ W.cell? ⟨w.heap.size + 1, 0, none⟩ = some (.int .i64 b.brk) ∧ W.cell? ⟨w.heap.size + 1, 1, none⟩ = some (.int .i64 b.drag) ∧ W.cell? ⟨w.heap.size + 1, 2, none⟩ = some (.int .i64 b.drv) ∧ W.cell? ⟨w.heap.size + 1 + 1, 0, none⟩ = some (.int .i64 (p : Int)) ∧ W.cell? ⟨w.heap.size + 1 + 1, 1, none⟩ = some (.int .i64 sq) ∧ W.cell? ⟨w.heap.size + 1 + 1, 2, none⟩ = some (.string s2) ∧ W.cell? ⟨w.heap.size + 1 + 1, 3, none⟩ = some (.slice A2 ps2.length c2)) := Lib.hid (fun W hW => ⟨hW, ((FQ.out.get 4 rfl).call hW.bl).cell 0, ((FQ.out.get 4 rfl).call hW.bl).cell 1, ((FQ.out.get 3 rfl).call hW.bl).cell 0, ((FQ.out.get 3 rfl).call hW.bl).cell 1, ((FQ.out.get 3 rfl).call hW.bl).cell 2, ((FQ.out.get 2 rfl).call hW.bl).cell 0, ((FQ.out.get 2 rfl).call hW.bl).cell 1, ((FQ.out.get 2 rfl).call hW.bl).cell 2, ((FQ.out.get 2 rfl).call hW.bl).cell 3⟩)
      have HAC := Lib.hid (Fr.lies HA.out FQ.out)
      have F10 : Fr wq wnow [] := by subst hnow; exact Fr.nil _
      clear hnow
      have HAC2 := Lib.hid (Fr.lies HA2.out FQ.out)
      refine Tw_start 11 (fun W => Fr wq W [] ∧ W.cell? ⟨w.heap.size, 0, none⟩ = some (.string s) ∧ W.cell? ⟨w.heap.size, 1, none⟩ = some (.slice (some a) ps.length c) ∧ W.cell? ⟨w.heap.size + 1, 0, none⟩ = some (.int .i64 b.brk) ∧ W.cell? ⟨w.heap.size + 1, 1, none⟩ = some (.int .i64 b.drag) ∧ W.cell? ⟨w.heap.size + 1, 2, none⟩ = some (.int .i64 b.drv) ∧ W.cell? ⟨w.heap.size + 1 + 1, 0, none⟩ = some (.int .i64 (p : Int)) ∧ W.cell? ⟨w.heap.size + 1 + 1, 1, none⟩ = some (.int .i64 sq) ∧ W.cell? ⟨w.heap.size + 1 + 1, 2, none⟩ = some (.string s2) ∧ W.cell? ⟨w.heap.size + 1 + 1, 3, none⟩ = some (.slice A2 ps2.length c2)) (by kernel_rfl) (by kernel_rfl) rfl ?_ ?_
      · (try dsimp only)
        ((go_split_ands; refine HALL.out _ ?_; (first | assumption | (repeat (first | assumption | refine Fr.new ?_ _ | refine Fr.drew ?_ | (refine Fr.set ?_ (by first | exact Nat.le_refl _ | omega | (simp; done) | (simp; omega)) (by first | (simp; done) | (simp; omega)) _))); done)))
      refine Tw_takeL (i := 0) (v := ?tv98) rfl (by kernel_rfl) (by decide) (by kernel_rfl) (by kernel_rfl) (fun _ _ _ h => h) (by rfl) ?ty98 ?tn98
      case ty98 => (intro w hSw; (try dsimp only at hSw); go_simp <;> with_reducible rfl)
      (try simp only [Act.put, List.setIfInBounds_toArray, List.set_cons_zero, List.set_cons_succ])
      refine Tw_takeL (i := 2) (v := ?tv99) rfl (by kernel_rfl) (by decide) (by kernel_rfl) (by kernel_rfl) (fun _ _ _ h => h) (by rfl) ?ty99 ?tn99
      case ty99 => (intro w hSw; (try dsimp only at hSw); go_simp <;> with_reducible rfl)
      (try simp only [Act.put, List.setIfInBounds_toArray, List.set_cons_zero, List.set_cons_succ])
      refine Tw_takeL (i := 3) (v := ?tv100) rfl (by kernel_rfl) (by decide) (by kernel_rfl) (by kernel_rfl) (fun _ _ _ h => h) (by rfl) ?ty100 ?tn100
      case ty100 => (intro w hSw; (try dsimp only at hSw); go_simp <;> with_reducible rfl)
      (try simp only [Act.put, List.setIfInBounds_toArray, List.set_cons_zero, List.set_cons_succ])
      refine Tw_all (rs := [1, 9]) (by kernel_rfl) (by simp) (by decide) (fun hHeld => ?_)
      refine AllT.consL rfl (fun K hK => ?_) (AllT.consL rfl (fun K hK => ?_) (AllT.nil))
      · go_simp
        (go_at_call 13; go_split_ands; (with_reducible refine (Copy_any s ps ⟨(some a), c⟩ (by omega) HG.out _ (Fr.lies HAC.out (by assumption))).mono ?_); rintro e w7 ⟨g2, rfl, hl2, hk2, hb7⟩; have L2 := Lib.hid hl2; have F4 := Fr.call (by assumption) hb7; (first | (have N1 := Lib.hid (Bk.call N1.out hb7)) | skip); (first | (have L3 := Lib.hid (Lies.call L3.out hb7)) | skip); clear hb7 hl2 hk2)
        refine hK.out _ _ ?_ ?_
        · (try dsimp only)
          ((go_split_ands; refine HALL.out _ ?_; (first | assumption | (repeat (first | assumption | refine Fr.new ?_ _ | refine Fr.drew ?_ | (refine Fr.set ?_ (by first | exact Nat.le_refl _ | omega | (simp; done) | (simp; omega)) (by first | (simp; done) | (simp; omega)) _))); done)))
        clear hK K
        (try simp only [Act.put, List.setIfInBounds_toArray, List.set_cons_zero, List.set_cons_succ])
        refine Tw_all (rs := [4, 9]) (by kernel_rfl) (by simp) (by decide) (fun hHeld => ?_)
        refine AllT.consL rfl (fun K hK => ?_) (AllT.consL rfl (fun K hK => ?_) (AllT.nil))
        · go_simp
          (go_at_call 13; go_split_ands; (with_reducible refine (Copy_any s2 ps2 ⟨A2, c2⟩ (by omega) HG2.out _ (Fr.lies HAC2.out (by assumption))).mono ?_); rintro e w7 ⟨g3, rfl, hl3, hk3, hb7⟩; have L3 := Lib.hid hl3; have F4 := Fr.call (by assumption) hb7; (first | (have N1 := Lib.hid (Bk.call N1.out hb7)) | skip); (first | (have L2 := Lib.hid (Lies.call L2.out hb7)) | skip); clear hb7 hl3 hk3)
          refine hK.out _ _ ?_ ?_
          · (try dsimp only)
            ((go_split_ands; refine HALL.out _ ?_; (first | assumption | (repeat (first | assumption | refine Fr.new ?_ _ | refine Fr.drew ?_ | (refine Fr.set ?_ (by first | exact Nat.le_refl _ | omega | (simp; done) | (simp; omega)) (by first | (simp; done) | (simp; omega)) _))); done)))
          clear hK K
          (try simp only [Act.put, List.setIfInBounds_toArray, List.set_cons_zero, List.set_cons_succ])
          refine Tw_all (rs := [5, 9]) (by kernel_rfl) (by simp) (by decide) (fun hHeld => ?_)
          refine AllT.consL rfl (fun K hK => ?_) (AllT.consL rfl (fun K hK => ?_) (AllT.nil))
          · go_simp
            (go_at_call 20; go_split_ands; (with_reducible refine (HJ.out _ _ _ _ _ L2.out L3.out).mono ?_); rintro e w7 ⟨sx, Ax, nx, cx, rfl, hb7⟩; have F4 := Fr.call (by assumption) hb7; (first | (have N1 := Lib.hid (Bk.call N1.out hb7)) | skip); clear hb7)
            refine hK.out _ _ ?_ ?_
            · (try dsimp only)
              ((go_split_ands; refine HALL.out _ ?_; (first | assumption | (repeat (first | assumption | refine Fr.new ?_ _ | refine Fr.drew ?_ | (refine Fr.set ?_ (by first | exact Nat.le_refl _ | omega | (simp; done) | (simp; omega)) (by first | (simp; done) | (simp; omega)) _))); done)))
            clear hK K
            (try simp only [Act.put, List.setIfInBounds_toArray, List.set_cons_zero, List.set_cons_succ])
            refine Tw_takeL (i := 6) (v := ?tv101) rfl (by kernel_rfl) (by decide) (by kernel_rfl) (by kernel_rfl) (fun _ _ _ h => h) (by rfl) ?ty101 ?tn101
            case ty101 => (intro w hSw; (try dsimp only at hSw); go_simp <;> with_reducible rfl)
            (try simp only [Act.put, List.setIfInBounds_toArray, List.set_cons_zero, List.set_cons_succ])
            refine Tw_takeL (i := 7) (v := ?tv102) rfl (by kernel_rfl) (by decide) (by kernel_rfl) (by kernel_rfl) (fun _ _ _ h => h) (by rfl) ?ty102 ?tn102
            case ty102 => (intro w hSw; (try dsimp only at hSw); go_simp <;> with_reducible rfl)
            (try simp only [Act.put, List.setIfInBounds_toArray, List.set_cons_zero, List.set_cons_succ])
            refine Tw_takeL (i := 8) (v := ?tv103) rfl (by kernel_rfl) (by decide) (by kernel_rfl) (by kernel_rfl) (fun _ _ _ h => h) (by rfl) ?ty103 ?tn103
            case ty103 => (intro w hSw; (try dsimp only at hSw); go_simp <;> with_reducible rfl)
            (try simp only [Act.put, List.setIfInBounds_toArray, List.set_cons_zero, List.set_cons_succ])
            refine Tw_all (rs := [9]) (by kernel_rfl) (by simp) (by decide) (fun hHeld => ?_)
            refine AllT.consL rfl (fun K hK => ?_) (AllT.nil)
            · go_simp
              refine hK.out _ _ ?_ ?_
              · (try dsimp only)
                ((go_split_ands; refine HALL.out _ ?_; (first | assumption | (repeat (first | assumption | refine Fr.new ?_ _ | refine Fr.drew ?_ | (refine Fr.set ?_ (by first | exact Nat.le_refl _ | omega | (simp; done) | (simp; omega)) (by first | (simp; done) | (simp; omega)) _))); done)))
              clear hK K
              (try simp only [Act.put, List.setIfInBounds_toArray, List.set_cons_zero, List.set_cons_succ])
              refine Tw_abs ?_
              intro wA99 hA99
              (first | (have N1 := Lib.hid (Bk.of_alloc hA99)) | (have N1 := Lib.hid (Bk.of_alloc_drew hA99)))
              have zg := Lib.hid (show wq.heap.size ≤ _ from hHeld.1.size)
              (first | (have L2 := Lib.hid (Lies.alloc hA99 L2.out)) | (have L2 := Lib.hid (Lies.alloc_drew hA99 L2.out)) | skip)
              (first | (have L3 := Lib.hid (Lies.alloc hA99 L3.out)) | (have L3 := Lib.hid (Lies.alloc_drew hA99 L3.out)) | skip)
              clear hA99
              refine Tw_all (rs := [10]) (by kernel_rfl) (by simp) (by decide) (fun hHeld => ?_)
              refine AllT.consL rfl (fun K hK => ?_) (AllT.nil)
              · have c0 := N1.out.cell 0
                have c1 := N1.out.cell 1
                have f0 := N1.out.frozen 0
                have f1 := N1.out.frozen 1
                have zN := N1.out.lt
                go_simp
                refine hK.out _ _ ?_ ?_
                · exact HALL.out _ ((hHeld.1.set (p := ⟨_, 0, none⟩) zg.out (fun b hb => by simp at hb) _).set (p := ⟨_, 1, none⟩) zg.out (fun b hb => by simp at hb) _)
                clear hK K c0 f0 c1 f1 zN
                have N1 := Lib.hid (Bk.set2 N1.out (.string sx) (.slice Ax nx cx))
                (try simp only [Act.put, List.setIfInBounds_toArray, List.set_cons_zero, List.set_cons_succ])
                refine Tw_end (by kernel_rfl) (fun hh => ?_)
                obtain ⟨F11, _⟩ := hh
                clear HALL
                go_wp2_with fail
                go_meet
                exact ⟨_, sx, Ax, nx, cx, rfl, rfl, F11.more N1.out⟩
          · go_simp
            refine hK.out _ _ ?_ ?_
            · (try dsimp only)
              ((go_split_ands; refine HALL.out _ ?_; (first | assumption | (repeat (first | assumption | refine Fr.new ?_ _ | refine Fr.drew ?_ | (refine Fr.set ?_ (by first | exact Nat.le_refl _ | omega | (simp; done) | (simp; omega)) (by first | (simp; done) | (simp; omega)) _))); done)))
            clear hK K
            (try simp only [Act.put, List.setIfInBounds_toArray, List.set_cons_zero, List.set_cons_succ])
            refine Tw_abs ?_
            intro wA101 hA101
            (first | (have N1 := Lib.hid (Bk.of_alloc hA101)) | (have N1 := Lib.hid (Bk.of_alloc_drew hA101)))
            have zg := Lib.hid (show wq.heap.size ≤ _ from hHeld.1.size)
            (first | (have L2 := Lib.hid (Lies.alloc hA101 L2.out)) | (have L2 := Lib.hid (Lies.alloc_drew hA101 L2.out)) | skip)
            (first | (have L3 := Lib.hid (Lies.alloc hA101 L3.out)) | (have L3 := Lib.hid (Lies.alloc_drew hA101 L3.out)) | skip)
            clear hA101
            refine Tw_all (rs := [5]) (by kernel_rfl) (by simp) (by decide) (fun hHeld => ?_)
            refine AllT.consL rfl (fun K hK => ?_) (AllT.nil)
            · go_simp
              (go_at_call 20; go_split_ands; (with_reducible refine (HJ.out _ _ _ _ _ L2.out L3.out).mono ?_); rintro e w7 ⟨sx, Ax, nx, cx, rfl, hb7⟩; have F4 := Fr.call (by assumption) hb7; (first | (have N1 := Lib.hid (Bk.call N1.out hb7)) | skip); clear hb7)
              refine hK.out _ _ ?_ ?_
              · (try dsimp only)
                ((go_split_ands; refine HALL.out _ ?_; (first | assumption | (repeat (first | assumption | refine Fr.new ?_ _ | refine Fr.drew ?_ | (refine Fr.set ?_ (by first | exact Nat.le_refl _ | omega | (simp; done) | (simp; omega)) (by first | (simp; done) | (simp; omega)) _))); done)))
              clear hK K
              (try simp only [Act.put, List.setIfInBounds_toArray, List.set_cons_zero, List.set_cons_succ])
              refine Tw_takeL (i := 6) (v := ?tv104) rfl (by kernel_rfl) (by decide) (by kernel_rfl) (by kernel_rfl) (fun _ _ _ h => h) (by rfl) ?ty104 ?tn104
              case ty104 => (intro w hSw; (try dsimp only at hSw); go_simp <;> with_reducible rfl)
              (try simp only [Act.put, List.setIfInBounds_toArray, List.set_cons_zero, List.set_cons_succ])
              refine Tw_takeL (i := 7) (v := ?tv105) rfl (by kernel_rfl) (by decide) (by kernel_rfl) (by kernel_rfl) (fun _ _ _ h => h) (by rfl) ?ty105 ?tn105
              case ty105 => (intro w hSw; (try dsimp only at hSw); go_simp <;> with_reducible rfl)
              (try simp only [Act.put, List.setIfInBounds_toArray, List.set_cons_zero, List.set_cons_succ])
              refine Tw_takeL (i := 8) (v := ?tv106) rfl (by kernel_rfl) (by decide) (by kernel_rfl) (by kernel_rfl) (fun _ _ _ h => h) (by rfl) ?ty106 ?tn106
              case ty106 => (intro w hSw; (try dsimp only at hSw); go_simp <;> with_reducible rfl)
              (try simp only [Act.put, List.setIfInBounds_toArray, List.set_cons_zero, List.set_cons_succ])
              refine Tw_all (rs := [10]) (by kernel_rfl) (by simp) (by decide) (fun hHeld => ?_)
              refine AllT.consL rfl (fun K hK => ?_) (AllT.nil)
              · have c0 := N1.out.cell 0
                have c1 := N1.out.cell 1
                have f0 := N1.out.frozen 0
                have f1 := N1.out.frozen 1
                have zN := N1.out.lt
                go_simp
                refine hK.out _ _ ?_ ?_
                · exact HALL.out _ ((hHeld.1.set (p := ⟨_, 0, none⟩) zg.out (fun b hb => by simp at hb) _).set (p := ⟨_, 1, none⟩) zg.out (fun b hb => by simp at hb) _)
                clear hK K c0 f0 c1 f1 zN
                have N1 := Lib.hid (Bk.set2 N1.out (.string sx) (.slice Ax nx cx))
                (try simp only [Act.put, List.setIfInBounds_toArray, List.set_cons_zero, List.set_cons_succ])
                refine Tw_end (by kernel_rfl) (fun hh => ?_)
                obtain ⟨F11, _⟩ := hh
                clear HALL
                go_wp2_with fail
                go_meet
                exact ⟨_, sx, Ax, nx, cx, rfl, rfl, F11.more N1.out⟩
        · go_simp
          refine hK.out _ _ ?_ ?_
          · (try dsimp only)
            ((go_split_ands; refine HALL.out _ ?_; (first | assumption | (repeat (first | assumption | refine Fr.new ?_ _ | refine Fr.drew ?_ | (refine Fr.set ?_ (by first | exact Nat.le_refl _ | omega | (simp; done) | (simp; omega)) (by first | (simp; done) | (simp; omega)) _))); done)))
          clear hK K
          (try simp only [Act.put, List.setIfInBounds_toArray, List.set_cons_zero, List.set_cons_succ])
          refine Tw_abs ?_
          intro wA104 hA104
          (first | (have N1 := Lib.hid (Bk.of_alloc hA104)) | (have N1 := Lib.hid (Bk.of_alloc_drew hA104)))
          have zg := Lib.hid (show wq.heap.size ≤ _ from hHeld.1.size)
          (first | (have L2 := Lib.hid (Lies.alloc hA104 L2.out)) | (have L2 := Lib.hid (Lies.alloc_drew hA104 L2.out)) | skip)
          (first | (have L3 := Lib.hid (Lies.alloc hA104 L3.out)) | (have L3 := Lib.hid (Lies.alloc_drew hA104 L3.out)) | skip)
          clear hA104
          refine Tw_all (rs := [4]) (by kernel_rfl) (by simp) (by decide) (fun hHeld => ?_)
          refine AllT.consL rfl (fun K hK => ?_) (AllT.nil)
          · go_simp
            (go_at_call 13; go_split_ands; (with_reducible refine (Copy_any s2 ps2 ⟨A2, c2⟩ (by omega) HG2.out _ (Fr.lies HAC2.out (by assumption))).mono ?_); rintro e w7 ⟨g3, rfl, hl3, hk3, hb7⟩; have L3 := Lib.hid hl3; have F4 := Fr.call (by assumption) hb7; (first | (have N1 := Lib.hid (Bk.call N1.out hb7)) | skip); (first | (have L2 := Lib.hid (Lies.call L2.out hb7)) | skip); clear hb7 hl3 hk3)
            refine hK.out _ _ ?_ ?_
            · (try dsimp only)
              ((go_split_ands; refine HALL.out _ ?_; (first | assumption | (repeat (first | assumption | refine Fr.new ?_ _ | refine Fr.drew ?_ | (refine Fr.set ?_ (by first | exact Nat.le_refl _ | omega | (simp; done) | (simp; omega)) (by first | (simp; done) | (simp; omega)) _))); done)))
            clear hK K
            (try simp only [Act.put, List.setIfInBounds_toArray, List.set_cons_zero, List.set_cons_succ])
            refine Tw_all (rs := [5]) (by kernel_rfl) (by simp) (by decide) (fun hHeld => ?_)
            refine AllT.consL rfl (fun K hK => ?_) (AllT.nil)
            · go_simp
              (go_at_call 20; go_split_ands; (with_reducible refine (HJ.out _ _ _ _ _ L2.out L3.out).mono ?_); rintro e w7 ⟨sx, Ax, nx, cx, rfl, hb7⟩; have F4 := Fr.call (by assumption) hb7; (first | (have N1 := Lib.hid (Bk.call N1.out hb7)) | skip); clear hb7)
              refine hK.out _ _ ?_ ?_
              · (try dsimp only)
                ((go_split_ands; refine HALL.out _ ?_; (first | assumption | (repeat (first | assumption | refine Fr.new ?_ _ | refine Fr.drew ?_ | (refine Fr.set ?_ (by first | exact Nat.le_refl _ | omega | (simp; done) | (simp; omega)) (by first | (simp; done) | (simp; omega)) _))); done)))
              clear hK K
              (try simp only [Act.put, List.setIfInBounds_toArray, List.set_cons_zero, List.set_cons_succ])
              refine Tw_takeL (i := 6) (v := ?tv107) rfl (by kernel_rfl) (by decide) (by kernel_rfl) (by kernel_rfl) (fun _ _ _ h => h) (by rfl) ?ty107 ?tn107
              case ty107 => (intro w hSw; (try dsimp only at hSw); go_simp <;> with_reducible rfl)
              (try simp only [Act.put, List.setIfInBounds_toArray, List.set_cons_zero, List.set_cons_succ])
              refine Tw_takeL (i := 7) (v := ?tv108) rfl (by kernel_rfl) (by decide) (by kernel_rfl) (by kernel_rfl) (fun _ _ _ h => h) (by rfl) ?ty108 ?tn108
              case ty108 => (intro w hSw; (try dsimp only at hSw); go_simp <;> with_reducible rfl)
              (try simp only [Act.put, List.setIfInBounds_toArray, List.set_cons_zero, List.set_cons_succ])
              refine Tw_takeL (i := 8) (v := ?tv109) rfl (by kernel_rfl) (by decide) (by kernel_rfl) (by kernel_rfl) (fun _ _ _ h => h) (by rfl) ?ty109 ?tn109
              case ty109 => (intro w hSw; (try dsimp only at hSw); go_simp <;> with_reducible rfl)
              (try simp only [Act.put, List.setIfInBounds_toArray, List.set_cons_zero, List.set_cons_succ])
              refine Tw_all (rs := [10]) (by kernel_rfl) (by simp) (by decide) (fun hHeld => ?_)
              refine AllT.consL rfl (fun K hK => ?_) (AllT.nil)
              · have c0 := N1.out.cell 0
                have c1 := N1.out.cell 1
                have f0 := N1.out.frozen 0
                have f1 := N1.out.frozen 1
                have zN := N1.out.lt
                go_simp
                refine hK.out _ _ ?_ ?_
                · exact HALL.out _ ((hHeld.1.set (p := ⟨_, 0, none⟩) zg.out (fun b hb => by simp at hb) _).set (p := ⟨_, 1, none⟩) zg.out (fun b hb => by simp at hb) _)
                clear hK K c0 f0 c1 f1 zN
                have N1 := Lib.hid (Bk.set2 N1.out (.string sx) (.slice Ax nx cx))
                (try simp only [Act.put, List.setIfInBounds_toArray, List.set_cons_zero, List.set_cons_succ])
                refine Tw_end (by kernel_rfl) (fun hh => ?_)
                obtain ⟨F11, _⟩ := hh
                clear HALL
                go_wp2_with fail
                go_meet
                exact ⟨_, sx, Ax, nx, cx, rfl, rfl, F11.more N1.out⟩
      · go_simp
        refine hK.out _ _ ?_ ?_
        · (try dsimp only)
          ((go_split_ands; refine HALL.out _ ?_; (first | assumption | (repeat (first | assumption | refine Fr.new ?_ _ | refine Fr.drew ?_ | (refine Fr.set ?_ (by first | exact Nat.le_refl _ | omega | (simp; done) | (simp; omega)) (by first | (simp; done) | (simp; omega)) _))); done)))
        clear hK K
        (try simp only [Act.put, List.setIfInBounds_toArray, List.set_cons_zero, List.set_cons_succ])
        refine Tw_abs ?_
        intro wA108 hA108
        (first | (have N1 := Lib.hid (Bk.of_alloc hA108)) | (have N1 := Lib.hid (Bk.of_alloc_drew hA108)))
        have zg := Lib.hid (show wq.heap.size ≤ _ from hHeld.1.size)
        (first | (have L2 := Lib.hid (Lies.alloc hA108 L2.out)) | (have L2 := Lib.hid (Lies.alloc_drew hA108 L2.out)) | skip)
        (first | (have L3 := Lib.hid (Lies.alloc hA108 L3.out)) | (have L3 := Lib.hid (Lies.alloc_drew hA108 L3.out)) | skip)
        clear hA108
        refine Tw_all (rs := [1]) (by kernel_rfl) (by simp) (by decide) (fun hHeld => ?_)
        refine AllT.consL rfl (fun K hK => ?_) (AllT.nil)
        · go_simp
          (go_at_call 13; go_split_ands; (with_reducible refine (Copy_any s ps ⟨(some a), c⟩ (by omega) HG.out _ (Fr.lies HAC.out (by assumption))).mono ?_); rintro e w7 ⟨g2, rfl, hl2, hk2, hb7⟩; have L2 := Lib.hid hl2; have F4 := Fr.call (by assumption) hb7; (first | (have N1 := Lib.hid (Bk.call N1.out hb7)) | skip); (first | (have L3 := Lib.hid (Lies.call L3.out hb7)) | skip); clear hb7 hl2 hk2)
          refine hK.out _ _ ?_ ?_
          · (try dsimp only)
            ((go_split_ands; refine HALL.out _ ?_; (first | assumption | (repeat (first | assumption | refine Fr.new ?_ _ | refine Fr.drew ?_ | (refine Fr.set ?_ (by first | exact Nat.le_refl _ | omega | (simp; done) | (simp; omega)) (by first | (simp; done) | (simp; omega)) _))); done)))
          clear hK K
          (try simp only [Act.put, List.setIfInBounds_toArray, List.set_cons_zero, List.set_cons_succ])
          refine Tw_all (rs := [4]) (by kernel_rfl) (by simp) (by decide) (fun hHeld => ?_)
          refine AllT.consL rfl (fun K hK => ?_) (AllT.nil)
          · go_simp
            (go_at_call 13; go_split_ands; (with_reducible refine (Copy_any s2 ps2 ⟨A2, c2⟩ (by omega) HG2.out _ (Fr.lies HAC2.out (by assumption))).mono ?_); rintro e w7 ⟨g3, rfl, hl3, hk3, hb7⟩; have L3 := Lib.hid hl3; have F4 := Fr.call (by assumption) hb7; (first | (have N1 := Lib.hid (Bk.call N1.out hb7)) | skip); (first | (have L2 := Lib.hid (Lies.call L2.out hb7)) | skip); clear hb7 hl3 hk3)
            refine hK.out _ _ ?_ ?_
            · (try dsimp only)
              ((go_split_ands; refine HALL.out _ ?_; (first | assumption | (repeat (first | assumption | refine Fr.new ?_ _ | refine Fr.drew ?_ | (refine Fr.set ?_ (by first | exact Nat.le_refl _ | omega | (simp; done) | (simp; omega)) (by first | (simp; done) | (simp; omega)) _))); done)))
            clear hK K
            (try simp only [Act.put, List.setIfInBounds_toArray, List.set_cons_zero, List.set_cons_succ])
            refine Tw_all (rs := [5]) (by kernel_rfl) (by simp) (by decide) (fun hHeld => ?_)
            refine AllT.consL rfl (fun K hK => ?_) (AllT.nil)
            · go_simp
              (go_at_call 20; go_split_ands; (with_reducible refine (HJ.out _ _ _ _ _ L2.out L3.out).mono ?_); rintro e w7 ⟨sx, Ax, nx, cx, rfl, hb7⟩; have F4 := Fr.call (by assumption) hb7; (first | (have N1 := Lib.hid (Bk.call N1.out hb7)) | skip); clear hb7)
              refine hK.out _ _ ?_ ?_
              · (try dsimp only)
                ((go_split_ands; refine HALL.out _ ?_; (first | assumption | (repeat (first | assumption | refine Fr.new ?_ _ | refine Fr.drew ?_ | (refine Fr.set ?_ (by first | exact Nat.le_refl _ | omega | (simp; done) | (simp; omega)) (by first | (simp; done) | (simp; omega)) _))); done)))
              clear hK K
              (try simp only [Act.put, List.setIfInBounds_toArray, List.set_cons_zero, List.set_cons_succ])
              refine Tw_takeL (i := 6) (v := ?tv110) rfl (by kernel_rfl) (by decide) (by kernel_rfl) (by kernel_rfl) (fun _ _ _ h => h) (by rfl) ?ty110 ?tn110
              case ty110 => (intro w hSw; (try dsimp only at hSw); go_simp <;> with_reducible rfl)
              (try simp only [Act.put, List.setIfInBounds_toArray, List.set_cons_zero, List.set_cons_succ])
              refine Tw_takeL (i := 7) (v := ?tv111) rfl (by kernel_rfl) (by decide) (by kernel_rfl) (by kernel_rfl) (fun _ _ _ h => h) (by rfl) ?ty111 ?tn111
              case ty111 => (intro w hSw; (try dsimp only at hSw); go_simp <;> with_reducible rfl)
              (try simp only [Act.put, List.setIfInBounds_toArray, List.set_cons_zero, List.set_cons_succ])
              refine Tw_takeL (i := 8) (v := ?tv112) rfl (by kernel_rfl) (by decide) (by kernel_rfl) (by kernel_rfl) (fun _ _ _ h => h) (by rfl) ?ty112 ?tn112
              case ty112 => (intro w hSw; (try dsimp only at hSw); go_simp <;> with_reducible rfl)
              (try simp only [Act.put, List.setIfInBounds_toArray, List.set_cons_zero, List.set_cons_succ])
              refine Tw_all (rs := [10]) (by kernel_rfl) (by simp) (by decide) (fun hHeld => ?_)
              refine AllT.consL rfl (fun K hK => ?_) (AllT.nil)
              · have c0 := N1.out.cell 0
                have c1 := N1.out.cell 1
                have f0 := N1.out.frozen 0
                have f1 := N1.out.frozen 1
                have zN := N1.out.lt
                go_simp
                refine hK.out _ _ ?_ ?_
                · exact HALL.out _ ((hHeld.1.set (p := ⟨_, 0, none⟩) zg.out (fun b hb => by simp at hb) _).set (p := ⟨_, 1, none⟩) zg.out (fun b hb => by simp at hb) _)
                clear hK K c0 f0 c1 f1 zN
                have N1 := Lib.hid (Bk.set2 N1.out (.string sx) (.slice Ax nx cx))
                (try simp only [Act.put, List.setIfInBounds_toArray, List.set_cons_zero, List.set_cons_succ])
                refine Tw_end (by kernel_rfl) (fun hh => ?_)
                obtain ⟨F11, _⟩ := hh
                clear HALL
                go_wp2_with fail
                go_meet
                exact ⟨_, sx, Ax, nx, cx, rfl, rfl, F11.more N1.out⟩
    case rest =>
      obtain ⟨wb8, rfl⟩ : ∃ W, W = wc := ⟨_, rfl⟩
      obtain ⟨gj, sx, Ax, nx, cx, rfl, rfl, hx⟩ := hcut
      have FB8 := Lib.hid (FQ.out.call hx.bl)
      have HX8 := Lib.hid hx
      clear hx FQ
      obtain ⟨k0_0, k0_1, kf0, kg0⟩ := (FB8.out.get 4 rfl).two
      have kz0 := (FB8.out.get 4 rfl).lt
      obtain ⟨k1_0, k1_1, k1_2⟩ := (FB8.out.get 3 rfl).three
      have kz1 := (FB8.out.get 3 rfl).lt
      obtain ⟨k2_0, k2_1, k2_2, k2_3⟩ := (FB8.out.get 2 rfl).four
      have kz2 := (FB8.out.get 2 rfl).lt
      obtain ⟨k3_0, k3_1, kf3, kg3⟩ := (FB8.out.get 1 rfl).two
      have kz3 := (FB8.out.get 1 rfl).lt
      obtain ⟨k4_0, k4_1, kf4, kg4⟩ := (FB8.out.get 0 rfl).two
      have kz4 := (FB8.out.get 0 rfl).lt
      go_wp2_with fail
      go_ret
      first | exact ⟨rfl, FB8.out.bl⟩ | exact ⟨rfl, (FB8.out.new _).bl⟩

set_option maxHeartbeats 3200000 in
set_option maxRecDepth 100000 in
theorem ws_ok (s : ByteArray) (hs : s.size ≤ maxLen) (ps : List Bp) (A : Option Addr) (c : Nat) (hg : HdOk ⟨A, c⟩) (hl : ps.length ≤ maxLen) (b : Bs) (s2 : ByteArray) (hs2 : s2.size ≤ maxLen) (ps2 : List Bp) (A2 : Option Addr) (c2 : Nat) (hg2 : HdOk ⟨A2, c2⟩) (hl2 : ps2.length ≤ maxLen) (p : Nat) (sq : Int) (hsh : shortB s ps = true) (hsh2 : shortB s2 ps2 = true) (h0 : bothE s ps b = 0) (h1 : stateE ps (p : Int) sq = 0) (lo hi : Int) (hsa : (∀ (A' : Option Addr) (c' : Nat) (W : World), Lies W W.heap.size A' (ps.flatMap pc) → Calls Try.prog 18 #[.agg #[.string s, .slice A' ps.length c'], .agg #[.int .i64 b.brk, .int .i64 b.drag, .int .i64 b.drv], .agg #[.int .i64 (p : Int), .int .i64 sq]] W fun e w' => e = .returned (.tuple #[.agg #[.int .i64 lo, .int .i64 hi], .int .i64 0]) ∧ Below W.heap.size W w')) (hrs : (∀ (A' : Option Addr) (c' : Nat) (W : World), Lies W W.heap.size A' (ps.flatMap pc) → Calls Try.prog 19 #[.agg #[.string s, .slice A' ps.length c'], .agg #[.int .i64 b.brk, .int .i64 b.drag, .int .i64 b.drv], .agg #[.int .i64 (p : Int), .int .i64 sq]] W fun e w' => e = .returned (.tuple #[.agg #[.int .i64 lo, .int .i64 hi], .bool true]) ∧ Below W.heap.size W w')) (hj0 : joiE s ps s2 ps2 = 0) (M : Nat) (hM : M = ps.length + ps2.length) (hsj : (∀ (A' : Option Addr) (c' : Nat) (W : World), Lies W W.heap.size A' ((ps ++ ps2).flatMap pc) → Calls Try.prog 18 #[.agg #[.string s, .slice A' M c'], .agg #[.int .i64 b.brk, .int .i64 b.drag, .int .i64 b.drv], .agg #[.int .i64 (p : Int), .int .i64 sq]] W fun e w' => e = .returned (.tuple #[.agg #[.int .i64 lo, .int .i64 hi], .int .i64 0]) ∧ Below W.heap.size W w')) (w : World) (hA : Lies w w.heap.size A (ps.flatMap pc)) (hA2 : Lies w w.heap.size A2 (ps2.flatMap pc)) : Calls Try.prog 4 #[.agg #[.string s, .slice A ps.length c], .agg #[.int .i64 b.brk, .int .i64 b.drag, .int .i64 b.drv], .agg #[.int .i64 (p : Int), .int .i64 sq, .string s2, .slice A2 ps2.length c2]] w fun e w' => e = .returned (.bool true) ∧ Below w.heap.size w w' := by
  have HJ : Hid (∀ (A' : Option Addr) (c' : Nat) (A'' : Option Addr) (c'' : Nat) (W : World), Lies W W.heap.size A' (ps.flatMap pc) → Lies W W.heap.size A'' (ps2.flatMap pc) → Calls Try.prog 20 #[.agg #[.string s, .slice A' ps.length c'], .agg #[.string s2, .slice A'' ps2.length c'']] W fun e w' => ∃ h : Hd, e = .returned (.tuple #[.agg #[.string s, .slice h.A M h.c], .int .i64 0]) ∧ HdOk h ∧ Lies w' w'.heap.size h.A ((ps ++ ps2).flatMap pc) ∧ (∀ a, h.A = some a → W.heap.size ≤ a.block) ∧ Below W.heap.size W w') := Lib.hid (fun A' c' A'' c'' W h h2 => by have h3 := joiE_zero hj0; obtain ⟨a1, rfl⟩ := ps_some h (trE_zero (nz_two h3.1).1).n0; obtain ⟨a2, rfl⟩ := ps_some h2 (trE_zero (nz_two h3.1).2).n0; have := Joined_ok s hs ps (some a1) c' (by have := (short_iff.1 hsh).2; omega) s2 hs2 ps2 (some a2) c'' (by have := (short_iff.1 hsh2).2; omega) h3.1 h3.2 W h h2; rw [← hM] at this; exact this)
  have HSJ := Lib.hid hsj
  have HN0 : Hid ((ps ++ ps2).length ≠ 0) := Lib.hid (by rw [List.length_append]; have := (bothE_zero h0).1.n0; omega)
  obtain ⟨hok, hb⟩ := bothE_zero h0
  obtain ⟨p2, hp2, _, hq0, hq1⟩ := stateE_ok h1
  clear hp2
  have hsb : sE b = 0 := sE_of hb
  obtain ⟨a, rfl⟩ := ps_some hA hok.n0
  have HSA := Lib.hid hsa
  have HRS := Lib.hid hrs
  have F0 := Lib.hid (Fr.b3 w 24 #[.string s, .slice (some a) ps.length c] 26 #[.int .i64 b.brk, .int .i64 b.drag, .int .i64 b.drv] 53 #[.int .i64 (p : Int), .int .i64 sq, .string s2, .slice A2 ps2.length c2])
  have HA := Lib.hid hA
  have HG := Lib.hid hg
  have HA2 := Lib.hid hA2
  have HG2 := Lib.hid hg2
  clear hA hg hA2 hg2
  have HSH := Lib.hid hsh
  have HSH2 := Lib.hid hsh2
  have hl14 : ps.length ≤ 14 := (short_iff.1 hsh).2
  have hl142 : ps2.length ≤ 14 := (short_iff.1 hsh2).2
  clear hsh hsh2
  have H0 := Lib.hid h0
  have H1 := Lib.hid h1
  have hM30 : M ≤ 30 := by omega
  clear hok hb hsb hq0 hq1 hsa hrs h0 h1 hj0 hM hsj
  go_enter Try.func4, Try.ntmps4
  go_wp2_with fail
  refine (awake_any _).mono ?_
  rintro e w1 ⟨rfl, hb1⟩
  have G1 := Fr.call F0.out hb1
  obtain ⟨k0_0, k0_1, kf0, kg0⟩ := (G1.get 2 rfl).two
  have kz0 := (G1.get 2 rfl).lt
  obtain ⟨k1_0, k1_1, k1_2⟩ := (G1.get 1 rfl).three
  have kz1 := (G1.get 1 rfl).lt
  obtain ⟨k2_0, k2_1, k2_2, k2_3⟩ := (G1.get 0 rfl).four
  have kz2 := (G1.get 0 rfl).lt
  have F1 : Hid (Fr w _ [(w.heap.size + 1 + 1, 53, #[.int .i64 (p : Int), .int .i64 sq, .string s2, .slice A2 ps2.length c2]), (w.heap.size + 1, 26, #[.int .i64 b.brk, .int .i64 b.drag, .int .i64 b.drv]), (w.heap.size, 24, #[.string s, .slice (some a) ps.length c])]) := Lib.hid G1
  clear hb1 G1 F0
  go_wp2_with fail
  refine (Short_any s hs ps (some a) c hl _).mono ?_
  rintro e w2 ⟨rfl, hb2⟩
  rw [HSH.out]
  clear k0_0 k0_1 kf0 kg0 kz0 k1_0 k1_1 k1_2 kz1 k2_0 k2_1 k2_2 k2_3 kz2
  have G2 := Fr.call F1.out hb2
  obtain ⟨k0_0, k0_1, kf0, kg0⟩ := (G2.get 2 rfl).two
  have kz0 := (G2.get 2 rfl).lt
  obtain ⟨k1_0, k1_1, k1_2⟩ := (G2.get 1 rfl).three
  have kz1 := (G2.get 1 rfl).lt
  obtain ⟨k2_0, k2_1, k2_2, k2_3⟩ := (G2.get 0 rfl).four
  have kz2 := (G2.get 0 rfl).lt
  have F2 : Hid (Fr w _ [(w.heap.size + 1 + 1, 53, #[.int .i64 (p : Int), .int .i64 sq, .string s2, .slice A2 ps2.length c2]), (w.heap.size + 1, 26, #[.int .i64 b.brk, .int .i64 b.drag, .int .i64 b.drv]), (w.heap.size, 24, #[.string s, .slice (some a) ps.length c])]) := Lib.hid G2
  clear hb2 G2 F1
  go_wp2_with fail
  refine (Short_any s2 hs2 ps2 A2 c2 hl2 _).mono ?_
  rintro e w3 ⟨rfl, hb3⟩
  rw [HSH2.out]
  clear k0_0 k0_1 kf0 kg0 kz0 k1_0 k1_1 k1_2 kz1 k2_0 k2_1 k2_2 k2_3 kz2
  have G3 := Fr.call F2.out hb3
  obtain ⟨k0_0, k0_1, kf0, kg0⟩ := (G3.get 2 rfl).two
  have kz0 := (G3.get 2 rfl).lt
  obtain ⟨k1_0, k1_1, k1_2⟩ := (G3.get 1 rfl).three
  have kz1 := (G3.get 1 rfl).lt
  obtain ⟨k2_0, k2_1, k2_2, k2_3⟩ := (G3.get 0 rfl).four
  have kz2 := (G3.get 0 rfl).lt
  have F3 : Hid (Fr w _ [(w.heap.size + 1 + 1, 53, #[.int .i64 (p : Int), .int .i64 sq, .string s2, .slice A2 ps2.length c2]), (w.heap.size + 1, 26, #[.int .i64 b.brk, .int .i64 b.drag, .int .i64 b.drv]), (w.heap.size, 24, #[.string s, .slice (some a) ps.length c])]) := Lib.hid G3
  clear hb3 G3 F2
  go_upto_region 5 with fail
  clear k0_0 k0_1 kf0 kg0 kz0 k1_0 k1_1 k1_2 kz1 k2_0 k2_1 k2_2 k2_3 kz2
  go_cut [7, 8] from 28 to 36 (fun pv ev W => ∃ g : Nat, pv = .pointer (some ⟨g, 0, none⟩) ∧ ev = .int .i64 0 ∧ Fr w3 W [(g, 48, #[.int .i64 lo, .int .i64 hi])])
  case first =>
    refine wp_abs ?_
    intro wnow hnow
    have HALL : Hid (∀ W, Fr w3 W [] → Fr w3 W [] ∧ W.cell? ⟨w.heap.size, 0, none⟩ = some (.string s) ∧ W.cell? ⟨w.heap.size, 1, none⟩ = some (.slice (some a) ps.length c) ∧ W.cell? ⟨w.heap.size + 1, 0, none⟩ = some (.int .i64 b.brk) ∧ W.cell? ⟨w.heap.size + 1, 1, none⟩ = some (.int .i64 b.drag) ∧ W.cell? ⟨w.heap.size + 1, 2, none⟩ = some (.int .i64 b.drv) ∧ W.cell? ⟨w.heap.size + 1 + 1, 0, none⟩ = some (.int .i64 (p : Int)) ∧ W.cell? ⟨w.heap.size + 1 + 1, 1, none⟩ = some (.int .i64 sq) ∧ W.cell? ⟨w.heap.size + 1 + 1, 2, none⟩ = some (.string s2) ∧ W.cell? ⟨w.heap.size + 1 + 1, 3, none⟩ = some (.slice A2 ps2.length c2)) := Lib.hid (fun W hW => ⟨hW, ((F3.out.get 2 rfl).call hW.bl).cell 0, ((F3.out.get 2 rfl).call hW.bl).cell 1, ((F3.out.get 1 rfl).call hW.bl).cell 0, ((F3.out.get 1 rfl).call hW.bl).cell 1, ((F3.out.get 1 rfl).call hW.bl).cell 2, ((F3.out.get 0 rfl).call hW.bl).cell 0, ((F3.out.get 0 rfl).call hW.bl).cell 1, ((F3.out.get 0 rfl).call hW.bl).cell 2, ((F3.out.get 0 rfl).call hW.bl).cell 3⟩)
    have HAC := Lib.hid (Fr.lies HA.out F3.out)
    have F10 : Fr w3 wnow [] := by subst hnow; exact Fr.nil _
    clear hnow
    refine Tw_start 11 (fun W => Fr w3 W [] ∧ W.cell? ⟨w.heap.size, 0, none⟩ = some (.string s) ∧ W.cell? ⟨w.heap.size, 1, none⟩ = some (.slice (some a) ps.length c) ∧ W.cell? ⟨w.heap.size + 1, 0, none⟩ = some (.int .i64 b.brk) ∧ W.cell? ⟨w.heap.size + 1, 1, none⟩ = some (.int .i64 b.drag) ∧ W.cell? ⟨w.heap.size + 1, 2, none⟩ = some (.int .i64 b.drv) ∧ W.cell? ⟨w.heap.size + 1 + 1, 0, none⟩ = some (.int .i64 (p : Int)) ∧ W.cell? ⟨w.heap.size + 1 + 1, 1, none⟩ = some (.int .i64 sq) ∧ W.cell? ⟨w.heap.size + 1 + 1, 2, none⟩ = some (.string s2) ∧ W.cell? ⟨w.heap.size + 1 + 1, 3, none⟩ = some (.slice A2 ps2.length c2)) (by kernel_rfl) (by kernel_rfl) rfl ?_ ?_
    · (try dsimp only)
      ((go_split_ands; refine HALL.out _ ?_; (first | assumption | (repeat (first | assumption | refine Fr.new ?_ _ | refine Fr.drew ?_ | (refine Fr.set ?_ (by first | exact Nat.le_refl _ | omega | (simp; done) | (simp; omega)) (by first | (simp; done) | (simp; omega)) _))); done)))
    refine Tw_takeL (i := 0) (v := ?tv113) rfl (by kernel_rfl) (by decide) (by kernel_rfl) (by kernel_rfl) (fun _ _ _ h => h) (by rfl) ?ty113 ?tn113
    case ty113 => (intro w hSw; (try dsimp only at hSw); go_simp <;> with_reducible rfl)
    (try simp only [Act.put, List.setIfInBounds_toArray, List.set_cons_zero, List.set_cons_succ])
    refine Tw_takeL (i := 2) (v := ?tv114) rfl (by kernel_rfl) (by decide) (by kernel_rfl) (by kernel_rfl) (fun _ _ _ h => h) (by rfl) ?ty114 ?tn114
    case ty114 => (intro w hSw; (try dsimp only at hSw); go_simp <;> with_reducible rfl)
    (try simp only [Act.put, List.setIfInBounds_toArray, List.set_cons_zero, List.set_cons_succ])
    refine Tw_takeL (i := 3) (v := ?tv115) rfl (by kernel_rfl) (by decide) (by kernel_rfl) (by kernel_rfl) (fun _ _ _ h => h) (by rfl) ?ty115 ?tn115
    case ty115 => (intro w hSw; (try dsimp only at hSw); go_simp <;> with_reducible rfl)
    (try simp only [Act.put, List.setIfInBounds_toArray, List.set_cons_zero, List.set_cons_succ])
    refine Tw_takeL (i := 4) (v := ?tv116) rfl (by kernel_rfl) (by decide) (by kernel_rfl) (by kernel_rfl) (fun _ _ _ h => h) (by rfl) ?ty116 ?tn116
    case ty116 => (intro w hSw; (try dsimp only at hSw); go_simp <;> with_reducible rfl)
    (try simp only [Act.put, List.setIfInBounds_toArray, List.set_cons_zero, List.set_cons_succ])
    refine Tw_all (rs := [1, 9]) (by kernel_rfl) (by simp) (by decide) (fun hHeld => ?_)
    refine AllT.consL rfl (fun K hK => ?_) (AllT.consL rfl (fun K hK => ?_) (AllT.nil))
    · go_simp
      (go_at_call 13; go_split_ands; (with_reducible refine (Copy_any s ps ⟨(some a), c⟩ (by omega) HG.out _ (Fr.lies HAC.out (by assumption))).mono ?_); rintro e w7 ⟨g2, rfl, hl2, hk2, hb7⟩; have L2 := Lib.hid hl2; have F4 := Fr.call (by assumption) hb7; (first | (have N1 := Lib.hid (Bk.call N1.out hb7)) | skip); clear hb7 hl2 hk2)
      refine hK.out _ _ ?_ ?_
      · (try dsimp only)
        ((go_split_ands; refine HALL.out _ ?_; (first | assumption | (repeat (first | assumption | refine Fr.new ?_ _ | refine Fr.drew ?_ | (refine Fr.set ?_ (by first | exact Nat.le_refl _ | omega | (simp; done) | (simp; omega)) (by first | (simp; done) | (simp; omega)) _))); done)))
      clear hK K
      (try simp only [Act.put, List.setIfInBounds_toArray, List.set_cons_zero, List.set_cons_succ])
      refine Tw_all (rs := [5, 9]) (by kernel_rfl) (by simp) (by decide) (fun hHeld => ?_)
      refine AllT.consL rfl (fun K hK => ?_) (AllT.consL rfl (fun K hK => ?_) (AllT.nil))
      · go_simp
        (go_at_call 18; go_split_ands; (with_reducible refine (HSA.out _ _ _ L2.out).mono ?_); rintro e w7 ⟨rfl, hb7⟩; skip; have F4 := Fr.call (by assumption) hb7; (first | (have N1 := Lib.hid (Bk.call N1.out hb7)) | skip); clear hb7)
        refine hK.out _ _ ?_ ?_
        · (try dsimp only)
          ((go_split_ands; refine HALL.out _ ?_; (first | assumption | (repeat (first | assumption | refine Fr.new ?_ _ | refine Fr.drew ?_ | (refine Fr.set ?_ (by first | exact Nat.le_refl _ | omega | (simp; done) | (simp; omega)) (by first | (simp; done) | (simp; omega)) _))); done)))
        clear hK K
        (try simp only [Act.put, List.setIfInBounds_toArray, List.set_cons_zero, List.set_cons_succ])
        refine Tw_takeL (i := 6) (v := ?tv117) rfl (by kernel_rfl) (by decide) (by kernel_rfl) (by kernel_rfl) (fun _ _ _ h => h) (by rfl) ?ty117 ?tn117
        case ty117 => (intro w hSw; (try dsimp only at hSw); go_simp <;> with_reducible rfl)
        (try simp only [Act.put, List.setIfInBounds_toArray, List.set_cons_zero, List.set_cons_succ])
        refine Tw_takeL (i := 7) (v := ?tv118) rfl (by kernel_rfl) (by decide) (by kernel_rfl) (by kernel_rfl) (fun _ _ _ h => h) (by rfl) ?ty118 ?tn118
        case ty118 => (intro w hSw; (try dsimp only at hSw); go_simp <;> with_reducible rfl)
        (try simp only [Act.put, List.setIfInBounds_toArray, List.set_cons_zero, List.set_cons_succ])
        refine Tw_takeL (i := 8) (v := ?tv119) rfl (by kernel_rfl) (by decide) (by kernel_rfl) (by kernel_rfl) (fun _ _ _ h => h) (by rfl) ?ty119 ?tn119
        case ty119 => (intro w hSw; (try dsimp only at hSw); go_simp <;> with_reducible rfl)
        (try simp only [Act.put, List.setIfInBounds_toArray, List.set_cons_zero, List.set_cons_succ])
        refine Tw_all (rs := [9]) (by kernel_rfl) (by simp) (by decide) (fun hHeld => ?_)
        refine AllT.consL rfl (fun K hK => ?_) (AllT.nil)
        · go_simp
          refine hK.out _ _ ?_ ?_
          · (try dsimp only)
            ((go_split_ands; refine HALL.out _ ?_; (first | assumption | (repeat (first | assumption | refine Fr.new ?_ _ | refine Fr.drew ?_ | (refine Fr.set ?_ (by first | exact Nat.le_refl _ | omega | (simp; done) | (simp; omega)) (by first | (simp; done) | (simp; omega)) _))); done)))
          clear hK K
          (try simp only [Act.put, List.setIfInBounds_toArray, List.set_cons_zero, List.set_cons_succ])
          refine Tw_abs ?_
          intro wA115 hA115
          (first | (have N1 := Lib.hid (Bk.of_alloc hA115)) | (have N1 := Lib.hid (Bk.of_alloc_drew hA115)))
          have zg := Lib.hid (show w3.heap.size ≤ _ from hHeld.1.size)
          (first | (have L2 := Lib.hid (Lies.alloc hA115 L2.out)) | (have L2 := Lib.hid (Lies.alloc_drew hA115 L2.out)) | skip)
          clear hA115
          refine Tw_all (rs := [10]) (by kernel_rfl) (by simp) (by decide) (fun hHeld => ?_)
          refine AllT.consL rfl (fun K hK => ?_) (AllT.nil)
          · have c0 := N1.out.cell 0
            have c1 := N1.out.cell 1
            have f0 := N1.out.frozen 0
            have f1 := N1.out.frozen 1
            have zN := N1.out.lt
            go_simp
            refine hK.out _ _ ?_ ?_
            · exact HALL.out _ ((hHeld.1.set (p := ⟨_, 0, none⟩) zg.out (fun b hb => by simp at hb) _).set (p := ⟨_, 1, none⟩) zg.out (fun b hb => by simp at hb) _)
            clear hK K c0 f0 c1 f1 zN
            have N1 := Lib.hid (Bk.set2 N1.out (.int .i64 lo) (.int .i64 hi))
            (try simp only [Act.put, List.setIfInBounds_toArray, List.set_cons_zero, List.set_cons_succ])
            refine Tw_end (by kernel_rfl) (fun hh => ?_)
            obtain ⟨F11, _⟩ := hh
            clear HALL
            go_wp2_with fail
            go_meet
            exact ⟨_, rfl, rfl, F11.more N1.out⟩
      · go_simp
        refine hK.out _ _ ?_ ?_
        · (try dsimp only)
          ((go_split_ands; refine HALL.out _ ?_; (first | assumption | (repeat (first | assumption | refine Fr.new ?_ _ | refine Fr.drew ?_ | (refine Fr.set ?_ (by first | exact Nat.le_refl _ | omega | (simp; done) | (simp; omega)) (by first | (simp; done) | (simp; omega)) _))); done)))
        clear hK K
        (try simp only [Act.put, List.setIfInBounds_toArray, List.set_cons_zero, List.set_cons_succ])
        refine Tw_abs ?_
        intro wA117 hA117
        (first | (have N1 := Lib.hid (Bk.of_alloc hA117)) | (have N1 := Lib.hid (Bk.of_alloc_drew hA117)))
        have zg := Lib.hid (show w3.heap.size ≤ _ from hHeld.1.size)
        (first | (have L2 := Lib.hid (Lies.alloc hA117 L2.out)) | (have L2 := Lib.hid (Lies.alloc_drew hA117 L2.out)) | skip)
        clear hA117
        refine Tw_all (rs := [5]) (by kernel_rfl) (by simp) (by decide) (fun hHeld => ?_)
        refine AllT.consL rfl (fun K hK => ?_) (AllT.nil)
        · go_simp
          (go_at_call 18; go_split_ands; (with_reducible refine (HSA.out _ _ _ L2.out).mono ?_); rintro e w7 ⟨rfl, hb7⟩; skip; have F4 := Fr.call (by assumption) hb7; (first | (have N1 := Lib.hid (Bk.call N1.out hb7)) | skip); clear hb7)
          refine hK.out _ _ ?_ ?_
          · (try dsimp only)
            ((go_split_ands; refine HALL.out _ ?_; (first | assumption | (repeat (first | assumption | refine Fr.new ?_ _ | refine Fr.drew ?_ | (refine Fr.set ?_ (by first | exact Nat.le_refl _ | omega | (simp; done) | (simp; omega)) (by first | (simp; done) | (simp; omega)) _))); done)))
          clear hK K
          (try simp only [Act.put, List.setIfInBounds_toArray, List.set_cons_zero, List.set_cons_succ])
          refine Tw_takeL (i := 6) (v := ?tv120) rfl (by kernel_rfl) (by decide) (by kernel_rfl) (by kernel_rfl) (fun _ _ _ h => h) (by rfl) ?ty120 ?tn120
          case ty120 => (intro w hSw; (try dsimp only at hSw); go_simp <;> with_reducible rfl)
          (try simp only [Act.put, List.setIfInBounds_toArray, List.set_cons_zero, List.set_cons_succ])
          refine Tw_takeL (i := 7) (v := ?tv121) rfl (by kernel_rfl) (by decide) (by kernel_rfl) (by kernel_rfl) (fun _ _ _ h => h) (by rfl) ?ty121 ?tn121
          case ty121 => (intro w hSw; (try dsimp only at hSw); go_simp <;> with_reducible rfl)
          (try simp only [Act.put, List.setIfInBounds_toArray, List.set_cons_zero, List.set_cons_succ])
          refine Tw_takeL (i := 8) (v := ?tv122) rfl (by kernel_rfl) (by decide) (by kernel_rfl) (by kernel_rfl) (fun _ _ _ h => h) (by rfl) ?ty122 ?tn122
          case ty122 => (intro w hSw; (try dsimp only at hSw); go_simp <;> with_reducible rfl)
          (try simp only [Act.put, List.setIfInBounds_toArray, List.set_cons_zero, List.set_cons_succ])
          refine Tw_all (rs := [10]) (by kernel_rfl) (by simp) (by decide) (fun hHeld => ?_)
          refine AllT.consL rfl (fun K hK => ?_) (AllT.nil)
          · have c0 := N1.out.cell 0
            have c1 := N1.out.cell 1
            have f0 := N1.out.frozen 0
            have f1 := N1.out.frozen 1
            have zN := N1.out.lt
            go_simp
            refine hK.out _ _ ?_ ?_
            · exact HALL.out _ ((hHeld.1.set (p := ⟨_, 0, none⟩) zg.out (fun b hb => by simp at hb) _).set (p := ⟨_, 1, none⟩) zg.out (fun b hb => by simp at hb) _)
            clear hK K c0 f0 c1 f1 zN
            have N1 := Lib.hid (Bk.set2 N1.out (.int .i64 lo) (.int .i64 hi))
            (try simp only [Act.put, List.setIfInBounds_toArray, List.set_cons_zero, List.set_cons_succ])
            refine Tw_end (by kernel_rfl) (fun hh => ?_)
            obtain ⟨F11, _⟩ := hh
            clear HALL
            go_wp2_with fail
            go_meet
            exact ⟨_, rfl, rfl, F11.more N1.out⟩
    · go_simp
      refine hK.out _ _ ?_ ?_
      · (try dsimp only)
        ((go_split_ands; refine HALL.out _ ?_; (first | assumption | (repeat (first | assumption | refine Fr.new ?_ _ | refine Fr.drew ?_ | (refine Fr.set ?_ (by first | exact Nat.le_refl _ | omega | (simp; done) | (simp; omega)) (by first | (simp; done) | (simp; omega)) _))); done)))
      clear hK K
      (try simp only [Act.put, List.setIfInBounds_toArray, List.set_cons_zero, List.set_cons_succ])
      refine Tw_abs ?_
      intro wA120 hA120
      (first | (have N1 := Lib.hid (Bk.of_alloc hA120)) | (have N1 := Lib.hid (Bk.of_alloc_drew hA120)))
      have zg := Lib.hid (show w3.heap.size ≤ _ from hHeld.1.size)
      (first | (have L2 := Lib.hid (Lies.alloc hA120 L2.out)) | (have L2 := Lib.hid (Lies.alloc_drew hA120 L2.out)) | skip)
      clear hA120
      refine Tw_all (rs := [1]) (by kernel_rfl) (by simp) (by decide) (fun hHeld => ?_)
      refine AllT.consL rfl (fun K hK => ?_) (AllT.nil)
      · go_simp
        (go_at_call 13; go_split_ands; (with_reducible refine (Copy_any s ps ⟨(some a), c⟩ (by omega) HG.out _ (Fr.lies HAC.out (by assumption))).mono ?_); rintro e w7 ⟨g2, rfl, hl2, hk2, hb7⟩; have L2 := Lib.hid hl2; have F4 := Fr.call (by assumption) hb7; (first | (have N1 := Lib.hid (Bk.call N1.out hb7)) | skip); clear hb7 hl2 hk2)
        refine hK.out _ _ ?_ ?_
        · (try dsimp only)
          ((go_split_ands; refine HALL.out _ ?_; (first | assumption | (repeat (first | assumption | refine Fr.new ?_ _ | refine Fr.drew ?_ | (refine Fr.set ?_ (by first | exact Nat.le_refl _ | omega | (simp; done) | (simp; omega)) (by first | (simp; done) | (simp; omega)) _))); done)))
        clear hK K
        (try simp only [Act.put, List.setIfInBounds_toArray, List.set_cons_zero, List.set_cons_succ])
        refine Tw_all (rs := [5]) (by kernel_rfl) (by simp) (by decide) (fun hHeld => ?_)
        refine AllT.consL rfl (fun K hK => ?_) (AllT.nil)
        · go_simp
          (go_at_call 18; go_split_ands; (with_reducible refine (HSA.out _ _ _ L2.out).mono ?_); rintro e w7 ⟨rfl, hb7⟩; skip; have F4 := Fr.call (by assumption) hb7; (first | (have N1 := Lib.hid (Bk.call N1.out hb7)) | skip); clear hb7)
          refine hK.out _ _ ?_ ?_
          · (try dsimp only)
            ((go_split_ands; refine HALL.out _ ?_; (first | assumption | (repeat (first | assumption | refine Fr.new ?_ _ | refine Fr.drew ?_ | (refine Fr.set ?_ (by first | exact Nat.le_refl _ | omega | (simp; done) | (simp; omega)) (by first | (simp; done) | (simp; omega)) _))); done)))
          clear hK K
          (try simp only [Act.put, List.setIfInBounds_toArray, List.set_cons_zero, List.set_cons_succ])
          refine Tw_takeL (i := 6) (v := ?tv123) rfl (by kernel_rfl) (by decide) (by kernel_rfl) (by kernel_rfl) (fun _ _ _ h => h) (by rfl) ?ty123 ?tn123
          case ty123 => (intro w hSw; (try dsimp only at hSw); go_simp <;> with_reducible rfl)
          (try simp only [Act.put, List.setIfInBounds_toArray, List.set_cons_zero, List.set_cons_succ])
          refine Tw_takeL (i := 7) (v := ?tv124) rfl (by kernel_rfl) (by decide) (by kernel_rfl) (by kernel_rfl) (fun _ _ _ h => h) (by rfl) ?ty124 ?tn124
          case ty124 => (intro w hSw; (try dsimp only at hSw); go_simp <;> with_reducible rfl)
          (try simp only [Act.put, List.setIfInBounds_toArray, List.set_cons_zero, List.set_cons_succ])
          refine Tw_takeL (i := 8) (v := ?tv125) rfl (by kernel_rfl) (by decide) (by kernel_rfl) (by kernel_rfl) (fun _ _ _ h => h) (by rfl) ?ty125 ?tn125
          case ty125 => (intro w hSw; (try dsimp only at hSw); go_simp <;> with_reducible rfl)
          (try simp only [Act.put, List.setIfInBounds_toArray, List.set_cons_zero, List.set_cons_succ])
          refine Tw_all (rs := [10]) (by kernel_rfl) (by simp) (by decide) (fun hHeld => ?_)
          refine AllT.consL rfl (fun K hK => ?_) (AllT.nil)
          · have c0 := N1.out.cell 0
            have c1 := N1.out.cell 1
            have f0 := N1.out.frozen 0
            have f1 := N1.out.frozen 1
            have zN := N1.out.lt
            go_simp
            refine hK.out _ _ ?_ ?_
            · exact HALL.out _ ((hHeld.1.set (p := ⟨_, 0, none⟩) zg.out (fun b hb => by simp at hb) _).set (p := ⟨_, 1, none⟩) zg.out (fun b hb => by simp at hb) _)
            clear hK K c0 f0 c1 f1 zN
            have N1 := Lib.hid (Bk.set2 N1.out (.int .i64 lo) (.int .i64 hi))
            (try simp only [Act.put, List.setIfInBounds_toArray, List.set_cons_zero, List.set_cons_succ])
            refine Tw_end (by kernel_rfl) (fun hh => ?_)
            obtain ⟨F11, _⟩ := hh
            clear HALL
            go_wp2_with fail
            go_meet
            exact ⟨_, rfl, rfl, F11.more N1.out⟩
  case rest =>
    obtain ⟨wb9, rfl⟩ : ∃ W, W = wc := ⟨_, rfl⟩
    obtain ⟨gr, rfl, rfl, hx⟩ := hcut
    have FB9 := Lib.hid (F3.out.call hx.bl)
    have HX9 := Lib.hid hx
    clear hx F3
    obtain ⟨k0_0, k0_1, kf0, kg0⟩ := (FB9.out.get 2 rfl).two
    have kz0 := (FB9.out.get 2 rfl).lt
    obtain ⟨k1_0, k1_1, k1_2⟩ := (FB9.out.get 1 rfl).three
    have kz1 := (FB9.out.get 1 rfl).lt
    obtain ⟨k2_0, k2_1, k2_2, k2_3⟩ := (FB9.out.get 0 rfl).four
    have kz2 := (FB9.out.get 0 rfl).lt
    have FR := Lib.hid (FB9.out.more HX9.out.top)
    clear FB9 HX9
    obtain ⟨k3_0, k3_1, kf3, kg3⟩ := (FR.out.get 0 rfl).two
    have kz3 := (FR.out.get 0 rfl).lt
    go_wp2_with fail
    refine (BothErr_any s hs ps (some a) c hl b _ (Fr.lies HA.out FR.out)).mono ?_
    rintro e w4 ⟨rfl, hb4⟩
    rw [H0.out]
    clear k0_0 k0_1 kf0 kg0 kz0 k1_0 k1_1 k1_2 kz1 k2_0 k2_1 k2_2 k2_3 kz2 k3_0 k3_1 kf3 kg3 kz3
    have G4 := Fr.call FR.out hb4
    obtain ⟨k0_0, k0_1, kf0, kg0⟩ := (G4.get 3 rfl).two
    have kz0 := (G4.get 3 rfl).lt
    obtain ⟨k1_0, k1_1, k1_2⟩ := (G4.get 2 rfl).three
    have kz1 := (G4.get 2 rfl).lt
    obtain ⟨k2_0, k2_1, k2_2, k2_3⟩ := (G4.get 1 rfl).four
    have kz2 := (G4.get 1 rfl).lt
    obtain ⟨k3_0, k3_1, kf3, kg3⟩ := (G4.get 0 rfl).two
    have kz3 := (G4.get 0 rfl).lt
    have F4 : Hid (Fr w _ [(gr, 48, #[.int .i64 lo, .int .i64 hi]), (w.heap.size + 1 + 1, 53, #[.int .i64 (p : Int), .int .i64 sq, .string s2, .slice A2 ps2.length c2]), (w.heap.size + 1, 26, #[.int .i64 b.brk, .int .i64 b.drag, .int .i64 b.drv]), (w.heap.size, 24, #[.string s, .slice (some a) ps.length c])]) := Lib.hid G4
    clear hb4 G4 FR
    go_wp2_with fail
    refine (StateErr_any s ps (some a) c (by omega) (p : Int) sq _).mono ?_
    rintro e w5 ⟨rfl, hb5⟩
    rw [H1.out]
    clear k0_0 k0_1 kf0 kg0 kz0 k1_0 k1_1 k1_2 kz1 k2_0 k2_1 k2_2 k2_3 kz2 k3_0 k3_1 kf3 kg3 kz3
    have G5 := Fr.call F4.out hb5
    obtain ⟨k0_0, k0_1, kf0, kg0⟩ := (G5.get 3 rfl).two
    have kz0 := (G5.get 3 rfl).lt
    obtain ⟨k1_0, k1_1, k1_2⟩ := (G5.get 2 rfl).three
    have kz1 := (G5.get 2 rfl).lt
    obtain ⟨k2_0, k2_1, k2_2, k2_3⟩ := (G5.get 1 rfl).four
    have kz2 := (G5.get 1 rfl).lt
    obtain ⟨k3_0, k3_1, kf3, kg3⟩ := (G5.get 0 rfl).two
    have kz3 := (G5.get 0 rfl).lt
    have F5 : Hid (Fr w _ [(gr, 48, #[.int .i64 lo, .int .i64 hi]), (w.heap.size + 1 + 1, 53, #[.int .i64 (p : Int), .int .i64 sq, .string s2, .slice A2 ps2.length c2]), (w.heap.size + 1, 26, #[.int .i64 b.brk, .int .i64 b.drag, .int .i64 b.drv]), (w.heap.size, 24, #[.string s, .slice (some a) ps.length c])]) := Lib.hid G5
    clear hb5 G5 F4
    have HWN : Hid (∀ b' ∈ ([(gr, 48, #[.int .i64 lo, .int .i64 hi]), (w.heap.size + 1 + 1, 53, #[.int .i64 (p : Int), .int .i64 sq, .string s2, .slice A2 ps2.length c2]), (w.heap.size + 1, 26, #[.int .i64 b.brk, .int .i64 b.drag, .int .i64 b.drv]), (w.heap.size, 24, #[.string s, .slice (some a) ps.length c])] : List (Nat × TypeId × Array Value)), b'.1 ≠ w5.heap.size) := Lib.hid (fun b' hb' => by have := (F5.out.bk b' hb').lt; omega)
    have HWZ : Hid (w.heap.size ≤ w5.heap.size) := Lib.hid F5.out.bl.size
    have FW := Lib.hid (Fr.box F5.out 48 #[.int .i64 0, .int .i64 0])
    clear F5
    go_wp2_with fail
    refine (HRS.out _ _ _ (Fr.lies HA.out FW.out)).mono ?_
    rintro e w6 ⟨rfl, hb6⟩
    clear k0_0 k0_1 kf0 kg0 kz0 k1_0 k1_1 k1_2 kz1 k2_0 k2_1 k2_2 k2_3 kz2 k3_0 k3_1 kf3 kg3 kz3
    have G6 := Fr.call FW.out hb6
    obtain ⟨k0_0, k0_1, kf0, kg0⟩ := (G6.get 4 rfl).two
    have kz0 := (G6.get 4 rfl).lt
    obtain ⟨k1_0, k1_1, k1_2⟩ := (G6.get 3 rfl).three
    have kz1 := (G6.get 3 rfl).lt
    obtain ⟨k2_0, k2_1, k2_2, k2_3⟩ := (G6.get 2 rfl).four
    have kz2 := (G6.get 2 rfl).lt
    obtain ⟨k3_0, k3_1, kf3, kg3⟩ := (G6.get 1 rfl).two
    have kz3 := (G6.get 1 rfl).lt
    obtain ⟨k4_0, k4_1, kf4, kg4⟩ := (G6.get 0 rfl).two
    have kz4 := (G6.get 0 rfl).lt
    have F6 : Hid (Fr w _ [(w5.heap.size, 48, #[.int .i64 0, .int .i64 0]), (gr, 48, #[.int .i64 lo, .int .i64 hi]), (w.heap.size + 1 + 1, 53, #[.int .i64 (p : Int), .int .i64 sq, .string s2, .slice A2 ps2.length c2]), (w.heap.size + 1, 26, #[.int .i64 b.brk, .int .i64 b.drag, .int .i64 b.drv]), (w.heap.size, 24, #[.string s, .slice (some a) ps.length c])]) := Lib.hid G6
    clear hb6 G6 FW
    have zw := (F6.out.get 0 rfl).lt
    go_upto_region 13 with fail
    refine wp_abs ?_
    intro wq hq
    have FQ : Hid (Fr w wq [(w5.heap.size, 48, #[.int .i64 lo, .int .i64 hi]), (gr, 48, #[.int .i64 lo, .int .i64 hi]), (w.heap.size + 1 + 1, 53, #[.int .i64 (p : Int), .int .i64 sq, .string s2, .slice A2 ps2.length c2]), (w.heap.size + 1, 26, #[.int .i64 b.brk, .int .i64 b.drag, .int .i64 b.drv]), (w.heap.size, 24, #[.string s, .slice (some a) ps.length c])]) := Lib.hid (by
      subst hq
      have h := (F6.out.put2a HWZ.out HWN.out (.int .i64 lo) (.int .i64 hi)).new (.cells #[.int .i64 lo, .int .i64 hi] 48)
      exact h)
    clear hq zw F6 k0_0 k0_1 kf0 kg0 kz0 k1_0 k1_1 k1_2 kz1 k2_0 k2_1 k2_2 k2_3 kz2 k3_0 k3_1 kf3 kg3 kz3 k4_0 k4_1 kf4 kg4 kz4
    obtain ⟨k0_0, k0_1, kf0, kg0⟩ := (FQ.out.get 4 rfl).two
    have kz0 := (FQ.out.get 4 rfl).lt
    obtain ⟨k1_0, k1_1, k1_2⟩ := (FQ.out.get 3 rfl).three
    have kz1 := (FQ.out.get 3 rfl).lt
    obtain ⟨k2_0, k2_1, k2_2, k2_3⟩ := (FQ.out.get 2 rfl).four
    have kz2 := (FQ.out.get 2 rfl).lt
    obtain ⟨k3_0, k3_1, kf3, kg3⟩ := (FQ.out.get 1 rfl).two
    have kz3 := (FQ.out.get 1 rfl).lt
    obtain ⟨k4_0, k4_1, kf4, kg4⟩ := (FQ.out.get 0 rfl).two
    have kz4 := (FQ.out.get 0 rfl).lt
    go_upto_region 17 with fail
    clear k0_0 k0_1 kf0 kg0 kz0 k1_0 k1_1 k1_2 kz1 k2_0 k2_1 k2_2 k2_3 kz2 k3_0 k3_1 kf3 kg3 kz3 k4_0 k4_1 kf4 kg4 kz4
    go_cut [13, 14] from 67 to 75 (fun jv fv W => ∃ (g : Nat) (h : Hd), jv = .pointer (some ⟨g, 0, none⟩) ∧ fv = .int .i64 0 ∧ Lies W W.heap.size h.A ((ps ++ ps2).flatMap pc) ∧ Fr wq W [(g, 24, #[.string s, .slice h.A M h.c])])
    case first =>
      refine wp_abs ?_
      intro wnow hnow
      have HALL : Hid (∀ W, Fr wq W [] → Fr wq W [] ∧ W.cell? ⟨w.heap.size, 0, none⟩ = some (.string s) ∧ W.cell? ⟨w.heap.size, 1, none⟩ = some (.slice (some a) ps.length c) ∧ W.cell? ⟨w.heap.size + 1, 0, none⟩ = some (.int .i64 b.brk) ∧ W.cell? ⟨w.heap.size + 1, 1, none⟩ = some (.int .i64 b.drag) ∧ W.cell? ⟨w.heap.size + 1, 2, none⟩ = some (.int .i64 b.drv) ∧ W.cell? ⟨w.heap.size + 1 + 1, 0, none⟩ = some (.int .i64 (p : Int)) ∧ W.cell? ⟨w.heap.size + 1 + 1, 1, none⟩ = some (.int .i64 sq) ∧ W.cell? ⟨w.heap.size + 1 + 1, 2, none⟩ = some (.string s2) ∧ W.cell? ⟨w.heap.size + 1 + 1, 3, none⟩ = some (.slice A2 ps2.length c2)) := Lib.hid (fun W hW => ⟨hW, ((FQ.out.get 4 rfl).call hW.bl).cell 0, ((FQ.out.get 4 rfl).call hW.bl).cell 1, ((FQ.out.get 3 rfl).call hW.bl).cell 0, ((FQ.out.get 3 rfl).call hW.bl).cell 1, ((FQ.out.get 3 rfl).call hW.bl).cell 2, ((FQ.out.get 2 rfl).call hW.bl).cell 0, ((FQ.out.get 2 rfl).call hW.bl).cell 1, ((FQ.out.get 2 rfl).call hW.bl).cell 2, ((FQ.out.get 2 rfl).call hW.bl).cell 3⟩)
      have HAC := Lib.hid (Fr.lies HA.out FQ.out)
      have F10 : Fr wq wnow [] := by subst hnow; exact Fr.nil _
      clear hnow
      have HAC2 := Lib.hid (Fr.lies HA2.out FQ.out)
      refine Tw_start 11 (fun W => Fr wq W [] ∧ W.cell? ⟨w.heap.size, 0, none⟩ = some (.string s) ∧ W.cell? ⟨w.heap.size, 1, none⟩ = some (.slice (some a) ps.length c) ∧ W.cell? ⟨w.heap.size + 1, 0, none⟩ = some (.int .i64 b.brk) ∧ W.cell? ⟨w.heap.size + 1, 1, none⟩ = some (.int .i64 b.drag) ∧ W.cell? ⟨w.heap.size + 1, 2, none⟩ = some (.int .i64 b.drv) ∧ W.cell? ⟨w.heap.size + 1 + 1, 0, none⟩ = some (.int .i64 (p : Int)) ∧ W.cell? ⟨w.heap.size + 1 + 1, 1, none⟩ = some (.int .i64 sq) ∧ W.cell? ⟨w.heap.size + 1 + 1, 2, none⟩ = some (.string s2) ∧ W.cell? ⟨w.heap.size + 1 + 1, 3, none⟩ = some (.slice A2 ps2.length c2)) (by kernel_rfl) (by kernel_rfl) rfl ?_ ?_
      · (try dsimp only)
        ((go_split_ands; refine HALL.out _ ?_; (first | assumption | (repeat (first | assumption | refine Fr.new ?_ _ | refine Fr.drew ?_ | (refine Fr.set ?_ (by first | exact Nat.le_refl _ | omega | (simp; done) | (simp; omega)) (by first | (simp; done) | (simp; omega)) _))); done)))
      refine Tw_takeL (i := 0) (v := ?tv126) rfl (by kernel_rfl) (by decide) (by kernel_rfl) (by kernel_rfl) (fun _ _ _ h => h) (by rfl) ?ty126 ?tn126
      case ty126 => (intro w hSw; (try dsimp only at hSw); go_simp <;> with_reducible rfl)
      (try simp only [Act.put, List.setIfInBounds_toArray, List.set_cons_zero, List.set_cons_succ])
      refine Tw_takeL (i := 2) (v := ?tv127) rfl (by kernel_rfl) (by decide) (by kernel_rfl) (by kernel_rfl) (fun _ _ _ h => h) (by rfl) ?ty127 ?tn127
      case ty127 => (intro w hSw; (try dsimp only at hSw); go_simp <;> with_reducible rfl)
      (try simp only [Act.put, List.setIfInBounds_toArray, List.set_cons_zero, List.set_cons_succ])
      refine Tw_takeL (i := 3) (v := ?tv128) rfl (by kernel_rfl) (by decide) (by kernel_rfl) (by kernel_rfl) (fun _ _ _ h => h) (by rfl) ?ty128 ?tn128
      case ty128 => (intro w hSw; (try dsimp only at hSw); go_simp <;> with_reducible rfl)
      (try simp only [Act.put, List.setIfInBounds_toArray, List.set_cons_zero, List.set_cons_succ])
      refine Tw_all (rs := [1, 9]) (by kernel_rfl) (by simp) (by decide) (fun hHeld => ?_)
      refine AllT.consL rfl (fun K hK => ?_) (AllT.consL rfl (fun K hK => ?_) (AllT.nil))
      · go_simp
        (go_at_call 13; go_split_ands; (with_reducible refine (Copy_any s ps ⟨(some a), c⟩ (by omega) HG.out _ (Fr.lies HAC.out (by assumption))).mono ?_); rintro e w7 ⟨g2, rfl, hl2, hk2, hb7⟩; have L2 := Lib.hid hl2; have F4 := Fr.call (by assumption) hb7; (first | (have N1 := Lib.hid (Bk.call N1.out hb7)) | skip); (first | (have L3 := Lib.hid (Lies.call L3.out hb7)) | skip); clear hb7 hl2 hk2)
        refine hK.out _ _ ?_ ?_
        · (try dsimp only)
          ((go_split_ands; refine HALL.out _ ?_; (first | assumption | (repeat (first | assumption | refine Fr.new ?_ _ | refine Fr.drew ?_ | (refine Fr.set ?_ (by first | exact Nat.le_refl _ | omega | (simp; done) | (simp; omega)) (by first | (simp; done) | (simp; omega)) _))); done)))
        clear hK K
        (try simp only [Act.put, List.setIfInBounds_toArray, List.set_cons_zero, List.set_cons_succ])
        refine Tw_all (rs := [4, 9]) (by kernel_rfl) (by simp) (by decide) (fun hHeld => ?_)
        refine AllT.consL rfl (fun K hK => ?_) (AllT.consL rfl (fun K hK => ?_) (AllT.nil))
        · go_simp
          (go_at_call 13; go_split_ands; (with_reducible refine (Copy_any s2 ps2 ⟨A2, c2⟩ (by omega) HG2.out _ (Fr.lies HAC2.out (by assumption))).mono ?_); rintro e w7 ⟨g3, rfl, hl3, hk3, hb7⟩; have L3 := Lib.hid hl3; have F4 := Fr.call (by assumption) hb7; (first | (have N1 := Lib.hid (Bk.call N1.out hb7)) | skip); (first | (have L2 := Lib.hid (Lies.call L2.out hb7)) | skip); clear hb7 hl3 hk3)
          refine hK.out _ _ ?_ ?_
          · (try dsimp only)
            ((go_split_ands; refine HALL.out _ ?_; (first | assumption | (repeat (first | assumption | refine Fr.new ?_ _ | refine Fr.drew ?_ | (refine Fr.set ?_ (by first | exact Nat.le_refl _ | omega | (simp; done) | (simp; omega)) (by first | (simp; done) | (simp; omega)) _))); done)))
          clear hK K
          (try simp only [Act.put, List.setIfInBounds_toArray, List.set_cons_zero, List.set_cons_succ])
          refine Tw_all (rs := [5, 9]) (by kernel_rfl) (by simp) (by decide) (fun hHeld => ?_)
          refine AllT.consL rfl (fun K hK => ?_) (AllT.consL rfl (fun K hK => ?_) (AllT.nil))
          · go_simp
            (go_at_call 20; go_split_ands; (with_reducible refine (HJ.out _ _ _ _ _ L2.out L3.out).mono ?_); rintro e w7 ⟨h, rfl, _, hl5, hba5, hb7⟩; (first | (have HNE := Lib.hid (ne_old hba5 N1.out)) | skip); have L5 := Lib.hid hl5; have F4 := Fr.call (by assumption) hb7; (first | (have N1 := Lib.hid (Bk.call N1.out hb7)) | skip); clear hb7 hl5 hba5)
            refine hK.out _ _ ?_ ?_
            · (try dsimp only)
              ((go_split_ands; refine HALL.out _ ?_; (first | assumption | (repeat (first | assumption | refine Fr.new ?_ _ | refine Fr.drew ?_ | (refine Fr.set ?_ (by first | exact Nat.le_refl _ | omega | (simp; done) | (simp; omega)) (by first | (simp; done) | (simp; omega)) _))); done)))
            clear hK K
            (try simp only [Act.put, List.setIfInBounds_toArray, List.set_cons_zero, List.set_cons_succ])
            refine Tw_takeL (i := 6) (v := ?tv129) rfl (by kernel_rfl) (by decide) (by kernel_rfl) (by kernel_rfl) (fun _ _ _ h => h) (by rfl) ?ty129 ?tn129
            case ty129 => (intro w hSw; (try dsimp only at hSw); go_simp <;> with_reducible rfl)
            (try simp only [Act.put, List.setIfInBounds_toArray, List.set_cons_zero, List.set_cons_succ])
            refine Tw_takeL (i := 7) (v := ?tv130) rfl (by kernel_rfl) (by decide) (by kernel_rfl) (by kernel_rfl) (fun _ _ _ h => h) (by rfl) ?ty130 ?tn130
            case ty130 => (intro w hSw; (try dsimp only at hSw); go_simp <;> with_reducible rfl)
            (try simp only [Act.put, List.setIfInBounds_toArray, List.set_cons_zero, List.set_cons_succ])
            refine Tw_takeL (i := 8) (v := ?tv131) rfl (by kernel_rfl) (by decide) (by kernel_rfl) (by kernel_rfl) (fun _ _ _ h => h) (by rfl) ?ty131 ?tn131
            case ty131 => (intro w hSw; (try dsimp only at hSw); go_simp <;> with_reducible rfl)
            (try simp only [Act.put, List.setIfInBounds_toArray, List.set_cons_zero, List.set_cons_succ])
            refine Tw_all (rs := [9]) (by kernel_rfl) (by simp) (by decide) (fun hHeld => ?_)
            refine AllT.consL rfl (fun K hK => ?_) (AllT.nil)
            · go_simp
              refine hK.out _ _ ?_ ?_
              · (try dsimp only)
                ((go_split_ands; refine HALL.out _ ?_; (first | assumption | (repeat (first | assumption | refine Fr.new ?_ _ | refine Fr.drew ?_ | (refine Fr.set ?_ (by first | exact Nat.le_refl _ | omega | (simp; done) | (simp; omega)) (by first | (simp; done) | (simp; omega)) _))); done)))
              clear hK K
              (try simp only [Act.put, List.setIfInBounds_toArray, List.set_cons_zero, List.set_cons_succ])
              refine Tw_abs ?_
              intro wA127 hA127
              (first | (have N1 := Lib.hid (Bk.of_alloc hA127)) | (have N1 := Lib.hid (Bk.of_alloc_drew hA127)))
              have zg := Lib.hid (show wq.heap.size ≤ _ from hHeld.1.size)
              (first | (have HNE := Lib.hid (ne_new L5.out HN0.out)) | skip)
              (first | (have L2 := Lib.hid (Lies.alloc hA127 L2.out)) | (have L2 := Lib.hid (Lies.alloc_drew hA127 L2.out)) | skip)
              (first | (have L3 := Lib.hid (Lies.alloc hA127 L3.out)) | (have L3 := Lib.hid (Lies.alloc_drew hA127 L3.out)) | skip)
              (first | (have L5 := Lib.hid (Lies.alloc hA127 L5.out)) | (have L5 := Lib.hid (Lies.alloc_drew hA127 L5.out)) | skip)
              clear hA127
              refine Tw_all (rs := [10]) (by kernel_rfl) (by simp) (by decide) (fun hHeld => ?_)
              refine AllT.consL rfl (fun K hK => ?_) (AllT.nil)
              · have c0 := N1.out.cell 0
                have c1 := N1.out.cell 1
                have f0 := N1.out.frozen 0
                have f1 := N1.out.frozen 1
                have zN := N1.out.lt
                go_simp
                refine hK.out _ _ ?_ ?_
                · exact HALL.out _ ((hHeld.1.set (p := ⟨_, 0, none⟩) zg.out (fun b hb => by simp at hb) _).set (p := ⟨_, 1, none⟩) zg.out (fun b hb => by simp at hb) _)
                clear hK K c0 f0 c1 f1 zN
                have N1 := Lib.hid (Bk.set2 N1.out (.string s) (.slice h.A M h.c))
                have L5 := Lib.hid (Lies.far2b L5.out HNE.out (.string s) (.slice h.A M h.c))
                (try simp only [Act.put, List.setIfInBounds_toArray, List.set_cons_zero, List.set_cons_succ])
                refine Tw_end (by kernel_rfl) (fun hh => ?_)
                obtain ⟨F11, _⟩ := hh
                clear HALL
                go_wp2_with fail
                go_meet
                exact ⟨_, h, rfl, rfl, L5.out, F11.more N1.out⟩
          · go_simp
            refine hK.out _ _ ?_ ?_
            · (try dsimp only)
              ((go_split_ands; refine HALL.out _ ?_; (first | assumption | (repeat (first | assumption | refine Fr.new ?_ _ | refine Fr.drew ?_ | (refine Fr.set ?_ (by first | exact Nat.le_refl _ | omega | (simp; done) | (simp; omega)) (by first | (simp; done) | (simp; omega)) _))); done)))
            clear hK K
            (try simp only [Act.put, List.setIfInBounds_toArray, List.set_cons_zero, List.set_cons_succ])
            refine Tw_abs ?_
            intro wA129 hA129
            (first | (have N1 := Lib.hid (Bk.of_alloc hA129)) | (have N1 := Lib.hid (Bk.of_alloc_drew hA129)))
            have zg := Lib.hid (show wq.heap.size ≤ _ from hHeld.1.size)
            (first | (have HNE := Lib.hid (ne_new L5.out HN0.out)) | skip)
            (first | (have L2 := Lib.hid (Lies.alloc hA129 L2.out)) | (have L2 := Lib.hid (Lies.alloc_drew hA129 L2.out)) | skip)
            (first | (have L3 := Lib.hid (Lies.alloc hA129 L3.out)) | (have L3 := Lib.hid (Lies.alloc_drew hA129 L3.out)) | skip)
            (first | (have L5 := Lib.hid (Lies.alloc hA129 L5.out)) | (have L5 := Lib.hid (Lies.alloc_drew hA129 L5.out)) | skip)
            clear hA129
            refine Tw_all (rs := [5]) (by kernel_rfl) (by simp) (by decide) (fun hHeld => ?_)
            refine AllT.consL rfl (fun K hK => ?_) (AllT.nil)
            · go_simp
              (go_at_call 20; go_split_ands; (with_reducible refine (HJ.out _ _ _ _ _ L2.out L3.out).mono ?_); rintro e w7 ⟨h, rfl, _, hl5, hba5, hb7⟩; (first | (have HNE := Lib.hid (ne_old hba5 N1.out)) | skip); have L5 := Lib.hid hl5; have F4 := Fr.call (by assumption) hb7; (first | (have N1 := Lib.hid (Bk.call N1.out hb7)) | skip); clear hb7 hl5 hba5)
              refine hK.out _ _ ?_ ?_
              · (try dsimp only)
                ((go_split_ands; refine HALL.out _ ?_; (first | assumption | (repeat (first | assumption | refine Fr.new ?_ _ | refine Fr.drew ?_ | (refine Fr.set ?_ (by first | exact Nat.le_refl _ | omega | (simp; done) | (simp; omega)) (by first | (simp; done) | (simp; omega)) _))); done)))
              clear hK K
              (try simp only [Act.put, List.setIfInBounds_toArray, List.set_cons_zero, List.set_cons_succ])
              refine Tw_takeL (i := 6) (v := ?tv132) rfl (by kernel_rfl) (by decide) (by kernel_rfl) (by kernel_rfl) (fun _ _ _ h => h) (by rfl) ?ty132 ?tn132
              case ty132 => (intro w hSw; (try dsimp only at hSw); go_simp <;> with_reducible rfl)
              (try simp only [Act.put, List.setIfInBounds_toArray, List.set_cons_zero, List.set_cons_succ])
              refine Tw_takeL (i := 7) (v := ?tv133) rfl (by kernel_rfl) (by decide) (by kernel_rfl) (by kernel_rfl) (fun _ _ _ h => h) (by rfl) ?ty133 ?tn133
              case ty133 => (intro w hSw; (try dsimp only at hSw); go_simp <;> with_reducible rfl)
              (try simp only [Act.put, List.setIfInBounds_toArray, List.set_cons_zero, List.set_cons_succ])
              refine Tw_takeL (i := 8) (v := ?tv134) rfl (by kernel_rfl) (by decide) (by kernel_rfl) (by kernel_rfl) (fun _ _ _ h => h) (by rfl) ?ty134 ?tn134
              case ty134 => (intro w hSw; (try dsimp only at hSw); go_simp <;> with_reducible rfl)
              (try simp only [Act.put, List.setIfInBounds_toArray, List.set_cons_zero, List.set_cons_succ])
              refine Tw_all (rs := [10]) (by kernel_rfl) (by simp) (by decide) (fun hHeld => ?_)
              refine AllT.consL rfl (fun K hK => ?_) (AllT.nil)
              · have c0 := N1.out.cell 0
                have c1 := N1.out.cell 1
                have f0 := N1.out.frozen 0
                have f1 := N1.out.frozen 1
                have zN := N1.out.lt
                go_simp
                refine hK.out _ _ ?_ ?_
                · exact HALL.out _ ((hHeld.1.set (p := ⟨_, 0, none⟩) zg.out (fun b hb => by simp at hb) _).set (p := ⟨_, 1, none⟩) zg.out (fun b hb => by simp at hb) _)
                clear hK K c0 f0 c1 f1 zN
                have N1 := Lib.hid (Bk.set2 N1.out (.string s) (.slice h.A M h.c))
                have L5 := Lib.hid (Lies.far2b L5.out HNE.out (.string s) (.slice h.A M h.c))
                (try simp only [Act.put, List.setIfInBounds_toArray, List.set_cons_zero, List.set_cons_succ])
                refine Tw_end (by kernel_rfl) (fun hh => ?_)
                obtain ⟨F11, _⟩ := hh
                clear HALL
                go_wp2_with fail
                go_meet
                exact ⟨_, h, rfl, rfl, L5.out, F11.more N1.out⟩
        · go_simp
          refine hK.out _ _ ?_ ?_
          · (try dsimp only)
            ((go_split_ands; refine HALL.out _ ?_; (first | assumption | (repeat (first | assumption | refine Fr.new ?_ _ | refine Fr.drew ?_ | (refine Fr.set ?_ (by first | exact Nat.le_refl _ | omega | (simp; done) | (simp; omega)) (by first | (simp; done) | (simp; omega)) _))); done)))
          clear hK K
          (try simp only [Act.put, List.setIfInBounds_toArray, List.set_cons_zero, List.set_cons_succ])
          refine Tw_abs ?_
          intro wA132 hA132
          (first | (have N1 := Lib.hid (Bk.of_alloc hA132)) | (have N1 := Lib.hid (Bk.of_alloc_drew hA132)))
          have zg := Lib.hid (show wq.heap.size ≤ _ from hHeld.1.size)
          (first | (have HNE := Lib.hid (ne_new L5.out HN0.out)) | skip)
          (first | (have L2 := Lib.hid (Lies.alloc hA132 L2.out)) | (have L2 := Lib.hid (Lies.alloc_drew hA132 L2.out)) | skip)
          (first | (have L3 := Lib.hid (Lies.alloc hA132 L3.out)) | (have L3 := Lib.hid (Lies.alloc_drew hA132 L3.out)) | skip)
          (first | (have L5 := Lib.hid (Lies.alloc hA132 L5.out)) | (have L5 := Lib.hid (Lies.alloc_drew hA132 L5.out)) | skip)
          clear hA132
          refine Tw_all (rs := [4]) (by kernel_rfl) (by simp) (by decide) (fun hHeld => ?_)
          refine AllT.consL rfl (fun K hK => ?_) (AllT.nil)
          · go_simp
            (go_at_call 13; go_split_ands; (with_reducible refine (Copy_any s2 ps2 ⟨A2, c2⟩ (by omega) HG2.out _ (Fr.lies HAC2.out (by assumption))).mono ?_); rintro e w7 ⟨g3, rfl, hl3, hk3, hb7⟩; have L3 := Lib.hid hl3; have F4 := Fr.call (by assumption) hb7; (first | (have N1 := Lib.hid (Bk.call N1.out hb7)) | skip); (first | (have L2 := Lib.hid (Lies.call L2.out hb7)) | skip); clear hb7 hl3 hk3)
            refine hK.out _ _ ?_ ?_
            · (try dsimp only)
              ((go_split_ands; refine HALL.out _ ?_; (first | assumption | (repeat (first | assumption | refine Fr.new ?_ _ | refine Fr.drew ?_ | (refine Fr.set ?_ (by first | exact Nat.le_refl _ | omega | (simp; done) | (simp; omega)) (by first | (simp; done) | (simp; omega)) _))); done)))
            clear hK K
            (try simp only [Act.put, List.setIfInBounds_toArray, List.set_cons_zero, List.set_cons_succ])
            refine Tw_all (rs := [5]) (by kernel_rfl) (by simp) (by decide) (fun hHeld => ?_)
            refine AllT.consL rfl (fun K hK => ?_) (AllT.nil)
            · go_simp
              (go_at_call 20; go_split_ands; (with_reducible refine (HJ.out _ _ _ _ _ L2.out L3.out).mono ?_); rintro e w7 ⟨h, rfl, _, hl5, hba5, hb7⟩; (first | (have HNE := Lib.hid (ne_old hba5 N1.out)) | skip); have L5 := Lib.hid hl5; have F4 := Fr.call (by assumption) hb7; (first | (have N1 := Lib.hid (Bk.call N1.out hb7)) | skip); clear hb7 hl5 hba5)
              refine hK.out _ _ ?_ ?_
              · (try dsimp only)
                ((go_split_ands; refine HALL.out _ ?_; (first | assumption | (repeat (first | assumption | refine Fr.new ?_ _ | refine Fr.drew ?_ | (refine Fr.set ?_ (by first | exact Nat.le_refl _ | omega | (simp; done) | (simp; omega)) (by first | (simp; done) | (simp; omega)) _))); done)))
              clear hK K
              (try simp only [Act.put, List.setIfInBounds_toArray, List.set_cons_zero, List.set_cons_succ])
              refine Tw_takeL (i := 6) (v := ?tv135) rfl (by kernel_rfl) (by decide) (by kernel_rfl) (by kernel_rfl) (fun _ _ _ h => h) (by rfl) ?ty135 ?tn135
              case ty135 => (intro w hSw; (try dsimp only at hSw); go_simp <;> with_reducible rfl)
              (try simp only [Act.put, List.setIfInBounds_toArray, List.set_cons_zero, List.set_cons_succ])
              refine Tw_takeL (i := 7) (v := ?tv136) rfl (by kernel_rfl) (by decide) (by kernel_rfl) (by kernel_rfl) (fun _ _ _ h => h) (by rfl) ?ty136 ?tn136
              case ty136 => (intro w hSw; (try dsimp only at hSw); go_simp <;> with_reducible rfl)
              (try simp only [Act.put, List.setIfInBounds_toArray, List.set_cons_zero, List.set_cons_succ])
              refine Tw_takeL (i := 8) (v := ?tv137) rfl (by kernel_rfl) (by decide) (by kernel_rfl) (by kernel_rfl) (fun _ _ _ h => h) (by rfl) ?ty137 ?tn137
              case ty137 => (intro w hSw; (try dsimp only at hSw); go_simp <;> with_reducible rfl)
              (try simp only [Act.put, List.setIfInBounds_toArray, List.set_cons_zero, List.set_cons_succ])
              refine Tw_all (rs := [10]) (by kernel_rfl) (by simp) (by decide) (fun hHeld => ?_)
              refine AllT.consL rfl (fun K hK => ?_) (AllT.nil)
              · have c0 := N1.out.cell 0
                have c1 := N1.out.cell 1
                have f0 := N1.out.frozen 0
                have f1 := N1.out.frozen 1
                have zN := N1.out.lt
                go_simp
                refine hK.out _ _ ?_ ?_
                · exact HALL.out _ ((hHeld.1.set (p := ⟨_, 0, none⟩) zg.out (fun b hb => by simp at hb) _).set (p := ⟨_, 1, none⟩) zg.out (fun b hb => by simp at hb) _)
                clear hK K c0 f0 c1 f1 zN
                have N1 := Lib.hid (Bk.set2 N1.out (.string s) (.slice h.A M h.c))
                have L5 := Lib.hid (Lies.far2b L5.out HNE.out (.string s) (.slice h.A M h.c))
                (try simp only [Act.put, List.setIfInBounds_toArray, List.set_cons_zero, List.set_cons_succ])
                refine Tw_end (by kernel_rfl) (fun hh => ?_)
                obtain ⟨F11, _⟩ := hh
                clear HALL
                go_wp2_with fail
                go_meet
                exact ⟨_, h, rfl, rfl, L5.out, F11.more N1.out⟩
      · go_simp
        refine hK.out _ _ ?_ ?_
        · (try dsimp only)
          ((go_split_ands; refine HALL.out _ ?_; (first | assumption | (repeat (first | assumption | refine Fr.new ?_ _ | refine Fr.drew ?_ | (refine Fr.set ?_ (by first | exact Nat.le_refl _ | omega | (simp; done) | (simp; omega)) (by first | (simp; done) | (simp; omega)) _))); done)))
        clear hK K
        (try simp only [Act.put, List.setIfInBounds_toArray, List.set_cons_zero, List.set_cons_succ])
        refine Tw_abs ?_
        intro wA136 hA136
        (first | (have N1 := Lib.hid (Bk.of_alloc hA136)) | (have N1 := Lib.hid (Bk.of_alloc_drew hA136)))
        have zg := Lib.hid (show wq.heap.size ≤ _ from hHeld.1.size)
        (first | (have HNE := Lib.hid (ne_new L5.out HN0.out)) | skip)
        (first | (have L2 := Lib.hid (Lies.alloc hA136 L2.out)) | (have L2 := Lib.hid (Lies.alloc_drew hA136 L2.out)) | skip)
        (first | (have L3 := Lib.hid (Lies.alloc hA136 L3.out)) | (have L3 := Lib.hid (Lies.alloc_drew hA136 L3.out)) | skip)
        (first | (have L5 := Lib.hid (Lies.alloc hA136 L5.out)) | (have L5 := Lib.hid (Lies.alloc_drew hA136 L5.out)) | skip)
        clear hA136
        refine Tw_all (rs := [1]) (by kernel_rfl) (by simp) (by decide) (fun hHeld => ?_)
        refine AllT.consL rfl (fun K hK => ?_) (AllT.nil)
        · go_simp
          (go_at_call 13; go_split_ands; (with_reducible refine (Copy_any s ps ⟨(some a), c⟩ (by omega) HG.out _ (Fr.lies HAC.out (by assumption))).mono ?_); rintro e w7 ⟨g2, rfl, hl2, hk2, hb7⟩; have L2 := Lib.hid hl2; have F4 := Fr.call (by assumption) hb7; (first | (have N1 := Lib.hid (Bk.call N1.out hb7)) | skip); (first | (have L3 := Lib.hid (Lies.call L3.out hb7)) | skip); clear hb7 hl2 hk2)
          refine hK.out _ _ ?_ ?_
          · (try dsimp only)
            ((go_split_ands; refine HALL.out _ ?_; (first | assumption | (repeat (first | assumption | refine Fr.new ?_ _ | refine Fr.drew ?_ | (refine Fr.set ?_ (by first | exact Nat.le_refl _ | omega | (simp; done) | (simp; omega)) (by first | (simp; done) | (simp; omega)) _))); done)))
          clear hK K
          (try simp only [Act.put, List.setIfInBounds_toArray, List.set_cons_zero, List.set_cons_succ])
          refine Tw_all (rs := [4]) (by kernel_rfl) (by simp) (by decide) (fun hHeld => ?_)
          refine AllT.consL rfl (fun K hK => ?_) (AllT.nil)
          · go_simp
            (go_at_call 13; go_split_ands; (with_reducible refine (Copy_any s2 ps2 ⟨A2, c2⟩ (by omega) HG2.out _ (Fr.lies HAC2.out (by assumption))).mono ?_); rintro e w7 ⟨g3, rfl, hl3, hk3, hb7⟩; have L3 := Lib.hid hl3; have F4 := Fr.call (by assumption) hb7; (first | (have N1 := Lib.hid (Bk.call N1.out hb7)) | skip); (first | (have L2 := Lib.hid (Lies.call L2.out hb7)) | skip); clear hb7 hl3 hk3)
            refine hK.out _ _ ?_ ?_
            · (try dsimp only)
              ((go_split_ands; refine HALL.out _ ?_; (first | assumption | (repeat (first | assumption | refine Fr.new ?_ _ | refine Fr.drew ?_ | (refine Fr.set ?_ (by first | exact Nat.le_refl _ | omega | (simp; done) | (simp; omega)) (by first | (simp; done) | (simp; omega)) _))); done)))
            clear hK K
            (try simp only [Act.put, List.setIfInBounds_toArray, List.set_cons_zero, List.set_cons_succ])
            refine Tw_all (rs := [5]) (by kernel_rfl) (by simp) (by decide) (fun hHeld => ?_)
            refine AllT.consL rfl (fun K hK => ?_) (AllT.nil)
            · go_simp
              (go_at_call 20; go_split_ands; (with_reducible refine (HJ.out _ _ _ _ _ L2.out L3.out).mono ?_); rintro e w7 ⟨h, rfl, _, hl5, hba5, hb7⟩; (first | (have HNE := Lib.hid (ne_old hba5 N1.out)) | skip); have L5 := Lib.hid hl5; have F4 := Fr.call (by assumption) hb7; (first | (have N1 := Lib.hid (Bk.call N1.out hb7)) | skip); clear hb7 hl5 hba5)
              refine hK.out _ _ ?_ ?_
              · (try dsimp only)
                ((go_split_ands; refine HALL.out _ ?_; (first | assumption | (repeat (first | assumption | refine Fr.new ?_ _ | refine Fr.drew ?_ | (refine Fr.set ?_ (by first | exact Nat.le_refl _ | omega | (simp; done) | (simp; omega)) (by first | (simp; done) | (simp; omega)) _))); done)))
              clear hK K
              (try simp only [Act.put, List.setIfInBounds_toArray, List.set_cons_zero, List.set_cons_succ])
              refine Tw_takeL (i := 6) (v := ?tv138) rfl (by kernel_rfl) (by decide) (by kernel_rfl) (by kernel_rfl) (fun _ _ _ h => h) (by rfl) ?ty138 ?tn138
              case ty138 => (intro w hSw; (try dsimp only at hSw); go_simp <;> with_reducible rfl)
              (try simp only [Act.put, List.setIfInBounds_toArray, List.set_cons_zero, List.set_cons_succ])
              refine Tw_takeL (i := 7) (v := ?tv139) rfl (by kernel_rfl) (by decide) (by kernel_rfl) (by kernel_rfl) (fun _ _ _ h => h) (by rfl) ?ty139 ?tn139
              case ty139 => (intro w hSw; (try dsimp only at hSw); go_simp <;> with_reducible rfl)
              (try simp only [Act.put, List.setIfInBounds_toArray, List.set_cons_zero, List.set_cons_succ])
              refine Tw_takeL (i := 8) (v := ?tv140) rfl (by kernel_rfl) (by decide) (by kernel_rfl) (by kernel_rfl) (fun _ _ _ h => h) (by rfl) ?ty140 ?tn140
              case ty140 => (intro w hSw; (try dsimp only at hSw); go_simp <;> with_reducible rfl)
              (try simp only [Act.put, List.setIfInBounds_toArray, List.set_cons_zero, List.set_cons_succ])
              refine Tw_all (rs := [10]) (by kernel_rfl) (by simp) (by decide) (fun hHeld => ?_)
              refine AllT.consL rfl (fun K hK => ?_) (AllT.nil)
              · have c0 := N1.out.cell 0
                have c1 := N1.out.cell 1
                have f0 := N1.out.frozen 0
                have f1 := N1.out.frozen 1
                have zN := N1.out.lt
                go_simp
                refine hK.out _ _ ?_ ?_
                · exact HALL.out _ ((hHeld.1.set (p := ⟨_, 0, none⟩) zg.out (fun b hb => by simp at hb) _).set (p := ⟨_, 1, none⟩) zg.out (fun b hb => by simp at hb) _)
                clear hK K c0 f0 c1 f1 zN
                have N1 := Lib.hid (Bk.set2 N1.out (.string s) (.slice h.A M h.c))
                have L5 := Lib.hid (Lies.far2b L5.out HNE.out (.string s) (.slice h.A M h.c))
                (try simp only [Act.put, List.setIfInBounds_toArray, List.set_cons_zero, List.set_cons_succ])
                refine Tw_end (by kernel_rfl) (fun hh => ?_)
                obtain ⟨F11, _⟩ := hh
                clear HALL
                go_wp2_with fail
                go_meet
                exact ⟨_, h, rfl, rfl, L5.out, F11.more N1.out⟩
    case rest =>
      obtain ⟨wb10, rfl⟩ : ∃ W, W = wc := ⟨_, rfl⟩
      obtain ⟨gj, h, rfl, rfl, hy, hx⟩ := hcut
      have FB10 := Lib.hid (FQ.out.call hx.bl)
      have HX10 := Lib.hid hx
      clear hx FQ
      obtain ⟨k0_0, k0_1, kf0, kg0⟩ := (FB10.out.get 4 rfl).two
      have kz0 := (FB10.out.get 4 rfl).lt
      obtain ⟨k1_0, k1_1, k1_2⟩ := (FB10.out.get 3 rfl).three
      have kz1 := (FB10.out.get 3 rfl).lt
      obtain ⟨k2_0, k2_1, k2_2, k2_3⟩ := (FB10.out.get 2 rfl).four
      have kz2 := (FB10.out.get 2 rfl).lt
      obtain ⟨k3_0, k3_1, kf3, kg3⟩ := (FB10.out.get 1 rfl).two
      have kz3 := (FB10.out.get 1 rfl).lt
      obtain ⟨k4_0, k4_1, kf4, kg4⟩ := (FB10.out.get 0 rfl).two
      have kz4 := (FB10.out.get 0 rfl).lt
      have HY := Lib.hid hy
      clear hy
      have FT := Lib.hid (FB10.out.more HX10.out.top)
      clear FB10 HX10
      obtain ⟨k5_0, k5_1, kf5, kg5⟩ := (FT.out.get 0 rfl).two
      have kz5 := (FT.out.get 0 rfl).lt
      go_wp2_with fail
      refine (HSJ.out _ _ _ HY.out).mono ?_
      rintro e w7 ⟨rfl, hb7⟩
      clear k0_0 k0_1 kf0 kg0 kz0 k1_0 k1_1 k1_2 kz1 k2_0 k2_1 k2_2 k2_3 kz2 k3_0 k3_1 kf3 kg3 kz3 k4_0 k4_1 kf4 kg4 kz4 k5_0 k5_1 kf5 kg5 kz5
      have G7 := Fr.call FT.out hb7
      obtain ⟨k0_0, k0_1, kf0, kg0⟩ := (G7.get 5 rfl).two
      have kz0 := (G7.get 5 rfl).lt
      obtain ⟨k1_0, k1_1, k1_2⟩ := (G7.get 4 rfl).three
      have kz1 := (G7.get 4 rfl).lt
      obtain ⟨k2_0, k2_1, k2_2, k2_3⟩ := (G7.get 3 rfl).four
      have kz2 := (G7.get 3 rfl).lt
      obtain ⟨k3_0, k3_1, kf3, kg3⟩ := (G7.get 2 rfl).two
      have kz3 := (G7.get 2 rfl).lt
      obtain ⟨k4_0, k4_1, kf4, kg4⟩ := (G7.get 1 rfl).two
      have kz4 := (G7.get 1 rfl).lt
      obtain ⟨k5_0, k5_1, kf5, kg5⟩ := (G7.get 0 rfl).two
      have kz5 := (G7.get 0 rfl).lt
      have F7 : Hid (Fr w _ [(gj, 24, #[.string s, .slice h.A M h.c]), (w5.heap.size, 48, #[.int .i64 lo, .int .i64 hi]), (gr, 48, #[.int .i64 lo, .int .i64 hi]), (w.heap.size + 1 + 1, 53, #[.int .i64 (p : Int), .int .i64 sq, .string s2, .slice A2 ps2.length c2]), (w.heap.size + 1, 26, #[.int .i64 b.brk, .int .i64 b.drag, .int .i64 b.drv]), (w.heap.size, 24, #[.string s, .slice (some a) ps.length c])]) := Lib.hid G7
      clear hb7 G7 FT
      go_wp2_with fail
      go_ret
      first | exact ⟨rfl, F7.out.bl⟩ | exact ⟨rfl, (F7.out.new _).bl⟩

set_option maxHeartbeats 3200000 in
set_option maxRecDepth 100000 in
theorem BrakeStands_any (s : ByteArray) (hs : s.size ≤ maxLen) (ps : List Bp) (A : Option Addr) (c : Nat) (hg : HdOk ⟨A, c⟩) (hl : ps.length ≤ maxLen) (b : Bs) (s2 : ByteArray) (hs2 : s2.size ≤ maxLen) (ps2 : List Bp) (A2 : Option Addr) (c2 : Nat) (hg2 : HdOk ⟨A2, c2⟩) (hl2 : ps2.length ≤ maxLen) (p sq : Int) (w : World) (hA : Lies w w.heap.size A (ps.flatMap pc)) (hA2 : Lies w w.heap.size A2 (ps2.flatMap pc)) : Calls Try.prog 4 #[.agg #[.string s, .slice A ps.length c], .agg #[.int .i64 b.brk, .int .i64 b.drag, .int .i64 b.drv], .agg #[.int .i64 p, .int .i64 sq, .string s2, .slice A2 ps2.length c2]] w fun e w' => e = .returned (.bool true) ∧ Below w.heap.size w w' := by
  have X : HdOk ⟨A, c⟩ := hg
  cases hsh : shortB s ps with
  | false => exact ws_long s hs ps A c hg hl b s2 hs2 ps2 A2 c2 hg2 hl2 p sq hsh w hA hA2
  | true =>
    cases hsh2 : shortB s2 ps2 with
    | false => exact ws_long2 s hs ps A c hg hl b s2 hs2 ps2 A2 c2 hg2 hl2 p sq hsh hsh2 w hA hA2
    | true =>
      by_cases h0 : bothE s ps b = 0
      · by_cases h1 : stateE ps p sq = 0
        · obtain ⟨hok, hb⟩ := bothE_zero h0
          obtain ⟨q, rfl, hk, hq⟩ := stateE_ok h1
          obtain ⟨lo, hi, er, k1, k2⟩ := stands_known s hs ps b hok hb (sE_of hb) q sq hq hk
          rcases k2 with ⟨rfl, rfl, rfl, k3⟩ | ⟨rfl, k3, k4⟩
          · exact ws_none s hs ps A c hg hl b s2 hs2 ps2 A2 c2 hg2 hl2 q sq hsh hsh2 h0 h1 k1 k3 w hA hA2
          · by_cases hj : joiE s ps s2 ps2 = 0
            · have h3 := joiE_zero hj
              exact ws_ok s hs ps A c hg hl b s2 hs2 ps2 A2 c2 hg2 hl2 q sq hsh hsh2 h0 h1 lo hi k1 k3 hj _ rfl (k4 ps2 (trE_zero (nz_two h3.1).2).each h3.2) w hA hA2
            · exact ws_jbad s hs ps A c hg hl b s2 hs2 ps2 A2 c2 hg2 hl2 q sq hsh hsh2 h0 h1 lo hi k1 k3 hj w hA hA2
        · exact ws_bad1 s hs ps A c hg hl b s2 hs2 ps2 A2 c2 hg2 hl2 p sq hsh hsh2 h0 _ h1 rfl w hA hA2
      · exact ws_bad0 s hs ps A c hg hl b s2 hs2 ps2 A2 c2 hg2 hl2 p sq hsh hsh2 _ h0 rfl w hA hA2
end Go.Proofs.Ytbicmbnhlnmdfaa
